/- The contract of db.packed, and that what it tells is one list only. -/
import Derived.Test.YtkmedgdpcifnoaaDoorBl
import Derived.Test.YtkmedgdpcifnoaaDoorBuild
namespace Go.Proofs.YtkmedgdpcifnoaaDoor
open Go.RowKit Go.Shelf

theorem below_grow (w : World) (k : Nat) (os : Array Obj) : Below w.heap.size w (Go.Sort.grow (w.drewN k) os) := by
  refine (below_drewN (Below.refl _ w) k).trans ⟨rfl, rfl, rfl, by simp [Go.Sort.grow], fun j hj => ?_⟩
  simp only [Go.Sort.grow]
  rw [Array.getElem?_append_left]
  exact Nat.lt_of_lt_of_le hj (below_drewN (Below.refl w.heap.size w) k).size
theorem bldAt_below {T e : TypeId} {B b : Nat} {f : Value} {bs : List Value} {w w' : World} (h : Lib.BuilderAt T e B b f bs w) (hb : Below w.heap.size w w') : Lib.BuilderAt T e B b f bs w' := by
  obtain ⟨hB, v, hbk, hown, hne⟩ := h
  exact ⟨hB, v, (hb.block b (lt_of_block hbk)).trans hbk, own_below hown hb, hne⟩
theorem bld_below {B b : Nat} {l : List UInt8} {w w' : World} (h : Bld B b l w) (hb : Below w.heap.size w w') : Bld B b l w' := h.elim (fun h => .inl (bldAt_below h hb)) fun h => .inr (bldAt_below h hb)
/-- a text with its length ahead -/
def pkS (x : Bs) : Bs := Lib.decDigits x.length ++ 32 :: x
def pakP (L : List Bs) : Bs := L.flatMap pkS
theorem pakP_snoc (L : List Bs) (x : Bs) : pakP (L ++ [x]) = pakP L ++ pkS x := by unfold pakP; rw [List.flatMap_append]; simp
def dv (l : Bs) : Nat := l.foldl (fun a c => a * 10 + (c.toNat - 48)) 0
theorem dv_dig (u : Nat) : dv (Lib.decDigits u) = u := by
  induction u using Nat.strongRecOn with
  | _ u ih =>
    by_cases h : u < 10
    · rw [Lib.decDigits, dif_pos h]
      have : (UInt8.ofNat (48 + u)).toNat = 48 + u := by rw [UInt8.toNat_ofNat']; exact Nat.mod_eq_of_lt (by omega)
      simp only [dv, List.foldl_cons, List.foldl_nil, this]
      omega
    · rw [Lib.decDigits, dif_neg h]
      have h1 := ih (u / 10) (by omega)
      have : (UInt8.ofNat (48 + u % 10)).toNat = 48 + u % 10 := by rw [UInt8.toNat_ofNat']; exact Nat.mod_eq_of_lt (by omega)
      unfold dv at h1 ⊢
      rw [List.foldl_append, h1]
      simp only [List.foldl_cons, List.foldl_nil, this]
      omega
theorem dig_sp (u : Nat) : ∀ c ∈ Lib.decDigits u, c ≠ 32 := by
  induction u using Nat.strongRecOn with
  | _ u ih =>
    by_cases h : u < 10
    · rw [Lib.decDigits, dif_pos h]
      intro c hc
      have : (UInt8.ofNat (48 + u)).toNat = 48 + u := by rw [UInt8.toNat_ofNat']; exact Nat.mod_eq_of_lt (by omega)
      obtain rfl : c = UInt8.ofNat (48 + u) := by simpa using hc
      intro e
      rw [e] at this
      have e2 : (32 : UInt8).toNat = 32 := rfl
      omega
    · rw [Lib.decDigits, dif_neg h]
      intro c hc
      rcases List.mem_append.1 hc with hc | hc
      · exact ih (u / 10) (by omega) c hc
      · have : (UInt8.ofNat (48 + u % 10)).toNat = 48 + u % 10 := by rw [UInt8.toNat_ofNat']; exact Nat.mod_eq_of_lt (by omega)
        obtain rfl : c = UInt8.ofNat (48 + u % 10) := by simpa using hc
        intro e
        rw [e] at this
        have e2 : (32 : UInt8).toNat = 32 := rfl
        omega
/-- what stands ahead of the first blank is known -/
theorem cut_sp : ∀ (a b : Bs) {x y : Bs}, (∀ c ∈ a, c ≠ 32) → (∀ c ∈ b, c ≠ 32) → a ++ 32 :: x = b ++ 32 :: y → a = b ∧ x = y
  | [], [], _, _, _, _, h => ⟨rfl, by simpa using h⟩
  | [], c :: b, _, _, _, hb, h => absurd (by simpa using (congrArg (·.head?) h).symm) (hb c (List.mem_cons_self ..))
  | c :: a, [], _, _, ha, _, h => absurd (by simpa using congrArg (·.head?) h) (ha c (List.mem_cons_self ..))
  | c :: a, d :: b, x, y, ha, hb, h => by
    simp only [List.cons_append, List.cons.injEq] at h
    obtain ⟨e1, e2⟩ := cut_sp a b (fun c hc => ha c (List.mem_cons_of_mem _ hc)) (fun c hc => hb c (List.mem_cons_of_mem _ hc)) h.2
    exact ⟨by rw [h.1, e1], e2⟩
theorem pakP_inj : ∀ a b : List Bs, pakP a = pakP b → a = b
  | [], [], _ => rfl
  | [], y :: b, h => by simp [pakP, pkS] at h
  | x :: a, [], h => by simp [pakP, pkS] at h
  | x :: a, y :: b, h => by
    have h1 : Lib.decDigits x.length ++ 32 :: (x ++ pakP a) = Lib.decDigits y.length ++ 32 :: (y ++ pakP b) := by simpa [pakP, pkS] using h
    obtain ⟨e1, e2⟩ := cut_sp _ _ (dig_sp _) (dig_sp _) h1
    have e3 : x.length = y.length := by rw [← dv_dig x.length, e1, dv_dig]
    obtain ⟨e4, e5⟩ := List.append_inj e2 e3
    rw [e4, pakP_inj a b e5]
theorem nDig_le : ∀ (k u : Nat), u < 10 ^ k → Lib.nDigits u ≤ max k 1
  | 0, u, h => by rw [Lib.nDigits_small (by simp at h; omega)]; omega
  | k + 1, u, h => by
    by_cases h1 : u < 10
    · rw [Lib.nDigits_small h1]; omega
    · rw [Lib.nDigits_big h1]
      have := nDig_le k (u / 10) (by rw [Nat.pow_succ] at h; omega)
      have hk : k ≠ 0 := by rintro rfl; simp at h; omega
      omega
theorem pkS_len (x : Bs) (h : x.length ≤ 1000000000) : (pkS x).length ≤ 1000000011 := by
  have h1 := Lib.decDigits_length x.length
  have h2 := nDig_le 10 x.length (by omega)
  unfold pkS
  rw [List.length_append, List.length_cons, h1]
  omega
theorem pakP_len : ∀ L : List Bs, (∀ x ∈ L, x.length ≤ 1000000000) → (pakP L).length ≤ L.length * 1000000011
  | [], _ => by simp [pakP]
  | x :: r, h => by
    have h1 := pakP_len r (fun y hy => h y (List.mem_cons_of_mem _ hy))
    have h2 := pkS_len x (h x (List.mem_cons_self ..))
    have e : pakP (x :: r) = pkS x ++ pakP r := rfl
    rw [e, List.length_append, List.length_cons]
    omega
theorem itoa_nat (n : Nat) : Lib.itoa (n : Int) = Lib.decDigits n := by
  unfold Lib.itoa
  rw [if_neg (by omega)]
  rfl
theorem packed_nil (a : Option Addr) (cap : Nat) (w : World) :
    Calls Tryd.prog 65 #[.slice a 0 cap] w fun e w' => e = .returned (.string (mk [])) ∧ Below w.heap.size w w' := by
  have hb0 : Bld w.heap.size w.heap.size [] _ := Lib.fresh_isBuilder 113 5 w
  go_enter Tryd.func65, Tryd.ntmps65
  go_wp2
  go_loopw [8] (fun i wr => i = .int .i64 0 ∧ Bld w.heap.size w.heap.size [] wr ∧ Below w.heap.size w wr) (fun _ _ => 0)
  case atStart => exact ⟨rfl, hb0, (Below.refl _ w).alloc (Nat.le_refl _) _⟩
  case round =>
    obtain ⟨rfl, hbl, hB⟩ := hrel
    go_wp2_with (go_at_call 70; refine (string_any _ _ _ _ hbl hB.size).mono ?_; rintro e w2 ⟨rfl, hB2⟩)
    go_ret
    exact ⟨rfl, hB.trans hB2⟩
set_option maxRecDepth 100000 in
set_option maxHeartbeats 2000000 in
theorem packed_some (L : List Bs) (b off cap : Nat) (w : World) (hg : Glo w) (hl : L.length ≤ 100000) (hb : b < w.heap.size) (hs : ∀ x ∈ L, x.length ≤ 1000000000) (hc : ∀ j, j < L.length → w.cell? ⟨b, off + j, none⟩ = some (sV (L.getD j []))) :
    Calls Tryd.prog 65 #[.slice (some ⟨b, off, none⟩) L.length cap] w fun e w' => e = .returned (.string (mk (pakP L))) ∧ Below w.heap.size w w' := by
  have hb0 : Bld w.heap.size w.heap.size [] _ := Lib.fresh_isBuilder 113 5 w
  have hG := hide' hg
  clear hg
  go_enter Tryd.func65, Tryd.ntmps65
  go_wp2
  go_loopw [8] (fun i wr => ∃ k : Nat, k ≤ L.length ∧ i = .int .i64 k ∧ Bld w.heap.size w.heap.size (pakP (L.take k)) wr ∧ Below w.heap.size w wr) (fun i _ => L.length - (intOf i).toNat)
  case atStart => exact ⟨0, Nat.zero_le _, rfl, hb0, (Below.refl _ w).alloc (Nat.le_refl _) _⟩
  case round =>
    obtain ⟨k, hk, rfl, hbl, hB⟩ := hrel
    have hsz := hB.size
    by_cases hlt : k < L.length
    · have c1 := (hB.cell (p := ⟨b, off + k, none⟩) hb).trans (hc k hlt)
      have hx : (L.getD k []).length ≤ 1000000000 := by rw [List.getD_eq_getElem?_getD, List.getElem?_eq_getElem hlt]; exact hs _ (List.getElem_mem hlt)
      have hnx : pakP (L.take (k + 1)) = pakP (L.take k) ++ pkS (L.getD k []) := by
        rw [List.take_succ_eq_append_getElem hlt, pakP_snoc, List.getD_eq_getElem?_getD, List.getElem?_eq_getElem hlt]
        rfl
      have hln := pakP_len (L.take k) (fun y hy => hs y (List.mem_of_mem_take hy))
      rw [List.length_take] at hln
      have hln2 : (pakP (L.take k)).length ≤ 100001100000000 := by
        have : min k L.length ≤ 100000 := by omega
        omega
      have hG1 := hG.out.tab
      have htab : Lib.TabIs Tryd.prog wr "internal/strconv.uint64pow10" .u64 Lib.pow10Tab := (hG.out.below hB).tab
      have hdl : (Lib.decDigits (L.getD k []).length).length ≤ 10 := by
        have h1 := Lib.decDigits_length (L.getD k []).length
        have h2 := nDig_le 10 (L.getD k []).length (by omega)
        omega
      generalize L.getD k [] = x at c1 hnx hx hdl
      obtain ⟨y, hy⟩ : ∃ y, y = mk x := ⟨_, rfl⟩
      have hyl : y.size = x.length := by rw [hy, mk_size]
      have hyt : tl y = x := by rw [hy, tl_mk]
      have c1 : wr.cell? ⟨b, off + k, none⟩ = some (.string y) := by rw [hy]; exact c1
      have kI := fun W => Tryd.strconv_Itoa (y.size : Int) (by omega) (by omega) W
      rw [itoa_nat] at kI
      unfold pkS at hnx
      rw [← hyl] at hx hdl hnx
      obtain ⟨D, hD⟩ : ∃ D : ByteArray, D = mk (Lib.decDigits y.size) := ⟨_, rfl⟩
      have hDs : D.size ≤ 10 := by rw [hD, mk_size]; exact hdl
      have hDt : tl D = Lib.decDigits y.size := by rw [hD, tl_mk]
      have kI : ∀ W, _ → Calls Tryd.prog 68 #[.int .i64 y.size] W fun e w' => e = .returned (.string D) ∧ _ := fun W h => by rw [hD]; exact kI W h
      rename_i c1' _
      clear c1'
      have HN := hide' (And.intro hnx (And.intro hyt hDt))
      have HX := hide' hyl
      clear hnx hyt hyl hy hln hs hc hG1 hDt hD hdl
      generalize pakP (L.take k) = P0 at hbl hln2 HN
      go_wp2_with fail
      refine (kI _ htab).mono ?_
      rintro e w2 ⟨rfl, q, os, rfl⟩
      have hbg := below_grow wr q os
      generalize Go.Sort.grow (wr.drewN q) os = w2 at hbg ⊢
      have hb2 := bld_below hbl hbg
      have hs2 := hbg.size
      clear hbl kI
      go_wp2_with fail
      refine (write_any _ _ _ _ _ hb2 (by omega) (Nat.le_trans hsz hs2)).mono ?_
      rintro e w3 ⟨rfl, hb3, hB3⟩
      have hl3 : (P0 ++ tl D).length ≤ 100001100000010 := by have htl : (tl D).length = D.size := (Lib.size_eq D).symm; rw [List.length_append, htl]; omega
      have hs3 := hB3.size
      clear hb2
      go_wp2_with fail
      refine (wbyte_any _ _ _ 32 32 rfl _ hb3 (by omega) (by omega)).mono ?_
      rintro e w4 ⟨rfl, hb4, hB4⟩
      have hl4 : (P0 ++ tl D ++ [32]).length ≤ 100001100000011 := by rw [List.length_append]; simp only [List.length_cons, List.length_nil]; omega
      have hs4 := hB4.size
      clear hb3
      go_wp2_with fail
      refine (write_any _ _ _ _ _ hb4 (by omega) (by omega)).mono ?_
      rintro e w5 ⟨rfl, hb5, hB5⟩
      go_wp2
      refine ⟨⟨k + 1, by omega, by go_num, ?_, ((((hB.trans (hbg.mono hsz)).trans hB3).trans hB4).trans hB5)⟩, by simp [intOf]; omega⟩
      rw [HN.out.1, ← HN.out.2.2, ← HN.out.2.1]
      have e3 : P0 ++ (tl D ++ 32 :: tl y) = P0 ++ tl D ++ [32] ++ tl y := by simp
      rw [e3]
      exact hb5
    · have hke : L.take k = L := List.take_of_length_le (by omega)
      rw [hke] at hbl
      clear hke
      go_wp2_with (go_at_call 70; refine (string_any _ _ _ _ hbl hsz).mono ?_; rintro e w2 ⟨rfl, hB2⟩)
      go_ret
      exact ⟨rfl, hB.trans hB2⟩
theorem packed_any (L : List Bs) (v : Value) (w : World) (hg : Glo w) (hl : L.length ≤ 100000) (hs : ∀ x ∈ L, x.length ≤ 1000000000) (h : Strs w v L) :
    Calls Tryd.prog 65 #[v] w fun e w' => e = .returned (.string (mk (pakP L))) ∧ Below w.heap.size w w' := by
  rcases h with ⟨a, c, rfl, rfl⟩ | ⟨b, off, cap, rfl, h3, h4⟩
  · exact packed_nil a c w
  · exact packed_some L b off cap w hg hl h3 hs h4
end Go.Proofs.YtkmedgdpcifnoaaDoor
