/- The contract of seek.each: the words of a text are handed on, one by one, as long as more are wanted. -/
import Derived.Test.YtabmnkddmdffkaaGreatDoorASq
import Derived.Test.YtabmnkddmdffkaaGreatDoorAZx
namespace Go.Proofs.YtabmnkddmdffkaaGreatDoor.Sk
open Go.RowKit Go.Shelf Tx
attribute [local go_sem] Oper.semAt_some

/-- what a text reads as -/
abbrev bts (x : Wd) : List UInt8 := bytesOf x
/-- yield, as one who goes over the places PL meets it: what comes is the next one -/
def YieldsP (n l N : Nat) (PL : List (List UInt8)) (J Jx : List Wd → World → Prop) : Prop :=
  ∀ (pre : List Wd) (x : Wd) W1, (pre ++ [x]).map bytesOf <+: PL → N ≤ W1.heap.size → J pre W1 → YieldAt Fence.wide n Tryz.prog l #[.string x.1] W1 fun e W' =>
    (e = .returned (.bool true) ∧ J (pre ++ [x]) W' ∧ Kp N W1 W') ∨ (e = .returned (.bool false) ∧ Jx (pre ++ [x]) W' ∧ Kx N W1 W')
/-- a list of texts that a call has made, from N on -/
structure TxRow (N : Nat) (W : World) (a : Option Addr) (n cap : Nat) (L : List Wd) : Prop where
  hlen : n = L.length
  hcap : n ≤ cap
  hbig : cap ≤ maxLen
  hat : ∀ j, j < n → ∃ b, a = some ⟨b, 0, none⟩ ∧ N ≤ b ∧ b < W.heap.size ∧ ∃ x : Wd, L[j]? = some x ∧ W.cell? ⟨b, j, none⟩ = some (.string x.1)
theorem TxRow.kx {N : Nat} {W W' : World} {a : Option Addr} {n cap : Nat} {L : List Wd} (h : TxRow N W a n cap L) (hk : Kx N W W') : TxRow N W' a n cap L :=
  ⟨h.hlen, h.hcap, h.hbig, fun j hj => by
    obtain ⟨b, e, h1, h2, x, h3, h4⟩ := h.hat j hj
    exact ⟨b, e, h1, Nat.lt_of_lt_of_le h2 hk.size, x, h3, by rw [← h4]; simp only [World.cell?, hk.up b h1 h2]⟩⟩
theorem splits (s : ByteArray) (hs : s.size ≤ 1000000) (w : World) :
    Calls Tryz.prog 113 #[.string s] w fun e W' => ∃ (a : Option Addr) (n cap : Nat), e = .returned (.slice a n cap) ∧ ∃ ys : List Wd, ys.map bytesOf = words s.data.toList ∧ TxRow w.heap.size W' a n cap ys ∧ Below w.heap.size w W' := by
  refine (split_any s hs w).mono ?_
  rintro e W' ⟨v, ys, rfl, hys, hrow, hb⟩
  rcases hrow.2 with ⟨rfl, h0⟩ | ⟨g, cap, cur, rfl, hg, hgb, h1, h2, h3, h4⟩
  · exact ⟨none, 0, 0, rfl, ys, hys, ⟨h0.symm, Nat.le_refl _, Nat.zero_le _, fun j hj => absurd hj (Nat.not_lt_zero _)⟩, hb⟩
  · refine ⟨_, _, _, rfl, ys, hys, ⟨rfl, h1, h2, fun j hj => ⟨g, rfl, hg, (Array.getElem?_eq_some_iff.1 hgb).1, ys[j], List.getElem?_eq_getElem hj, ?_⟩⟩, hb⟩
    have hj' : (ys.map encW)[j]? = some (.string (ys[j]).1) := by
      rw [List.getElem?_map, List.getElem?_eq_getElem hj]; rfl
    rw [← h4, List.getElem?_take_of_lt (by omega)] at hj'
    simp only [World.cell?, hgb]
    simpa using hj'
theorem map_take_succ {α β : Type} (f : α → β) (L : List α) (k : Nat) (h : k < L.length) : (L.take (k + 1)).map f = (L.take k).map f ++ [f L[k]] := by
  rw [List.take_succ_eq_append_getElem h, List.map_append]; rfl

set_option maxRecDepth 100000 in
set_option maxHeartbeats 1000000 in
theorem each_in (n l N : Nat) (hn : 1 ≤ n) (s : ByteArray) (hs : s.size ≤ 1000000) (PL : List (List UInt8)) (J Jx : List Wd → World → Prop) (pre0 : List Wd) (W : World) (hN : N ≤ W.heap.size)
    (hJb : ∀ pre A B, J pre A → Below N A B → J pre B) (hP : pre0.map bytesOf ++ words s.data.toList <+: PL) (hY : YieldsP (n - 1) l N PL J Jx) (h0 : J pre0 W) :
    CallsIn Fence.wide n Tryz.prog 87 #[.string s, .func (.yield l) #[] #[]] W fun e W' =>
      (e = .returned (.bool true) ∧ (∃ ys : List Wd, ys.map bytesOf = words s.data.toList ∧ J (pre0 ++ ys) W') ∧ Kp N W W') ∨ (e = .returned (.bool false) ∧ (∃ pre : List Wd, Jx pre W') ∧ Kx N W W') := by
  have HY := hide' hY
  have HJ := hide' hJb
  clear hY hJb
  refine callsIn_of_wp Tryz.func87 rfl trivial ?_ rfl
  simp only [Tryz.ntmps87, List.size_toArray, List.length_cons, List.length_nil, Nat.reduceAdd, Nat.reduceSub, Array.replicate_succ, Array.replicate_zero, List.push_toArray, List.append_toArray, List.nil_append, List.cons_append]
  gi_wp2_with (refine ⟨trivial, ?_⟩; gi_at_call 113; refine (callsIn_wide.2 (splits s hs _)).mono ?_; rintro e W1 ⟨a, m, cap, rfl, ys, hys, hrow, hb1⟩)
  have hK1 : Kp N W W1 := Kp.below hb1
  have hrow1 : TxRow N W1 a m cap ys := ⟨hrow.hlen, hrow.hcap, hrow.hbig, fun j hj => by obtain ⟨b, e, h1, h2⟩ := hrow.hat j hj; exact ⟨b, e, Nat.le_trans hN h1, h2⟩⟩
  have hJ1 : J (pre0 ++ ys.take 0) W1 := by rw [List.take_zero, List.append_nil]; exact HJ.out _ _ _ h0 (hb1.mono hN)
  have hsz : ∀ k, (hk : k < ys.length) → (pre0 ++ ys.take (k + 1)).map bytesOf <+: PL := fun k hk => by
    refine List.IsPrefix.trans ?_ hP
    rw [List.map_append, ← hys]
    exact (List.prefix_append_right_inj _).2 ((List.take_prefix _ _).map _)
  have HLEN := hide' hrow1.hlen
  have HYS := hide' hys
  have HSZ := hide' hsz
  have hm : m ≤ 9223372036854775807 := by have h1 := hrow1.hbig; have h2 := hrow1.hcap; unfold maxLen at h1; omega
  clear hrow hsz hys hP h0 hb1
  gi_loopw [10] (fun p wr => ∃ k : Nat, k ≤ m ∧ p = .int .i64 k ∧ TxRow N wr a m cap ys ∧ Kp N W wr ∧ J (pre0 ++ ys.take k) wr)
    (fun p _ => m - (intOf p).toNat)
  case atStart => exact ⟨0, Nat.zero_le _, rfl, hrow1, hK1, hJ1⟩
  case round =>
    obtain ⟨k, hk, rfl, hO, hK, hJs⟩ := hrel
    by_cases hlt : k < m
    · obtain ⟨b, rfl, hNb, hbs, x, hx, hc⟩ := hO.hat k hlt
      have hkl : k < ys.length := by have := HLEN.out; omega
      have hxx : x = ys[k] := by rw [List.getElem?_eq_getElem hkl] at hx; exact (Option.some.inj hx).symm
      have htk : pre0 ++ ys.take k ++ [x] = pre0 ++ ys.take (k + 1) := by rw [List.append_assoc, hxx, List.take_succ_eq_append_getElem hkl]
      obtain ⟨fn, tmps, assign, body, hy, hR⟩ := HY.out (pre0 ++ ys.take k) x wr (by rw [htk]; exact HSZ.out k hkl) (Nat.le_trans hN hK.size) hJs
      have HTK := hide' htk
      have HO := hide' hO
      clear hkl hx hxx htk hO
      gi_wp2
      refine hR.mono ?_
      rintro e' W3 (⟨rfl, hJ3, hk3⟩ | ⟨rfl, hJx3, hk3⟩)
      · rw [HTK.out] at hJ3
        have hO3 := HO.out.kx hk3.x
        have hK3 := hK.trans hk3
        gi_wp2
        exact ⟨⟨k + 1, by omega, by go_num, hO3, hK3, hJ3⟩, by simp [intOf]; omega⟩
      · have hK3 := hK.x.trans hk3
        gi_wp2
        go_ret
        exact .inr ⟨rfl, ⟨_, hJx3⟩, hK3⟩
    · have hkm : k = m := by omega
      have hall : ys.take k = ys := by rw [hkm, HLEN.out, List.take_length]
      rw [hall] at hJs
      have HF := hide' hJs
      clear hkm hall hJs
      gi_wp2
      go_ret
      exact .inl ⟨rfl, ⟨ys, HYS.out, HF.out⟩, hK⟩
end Go.Proofs.YtabmnkddmdffkaaGreatDoor.Sk
