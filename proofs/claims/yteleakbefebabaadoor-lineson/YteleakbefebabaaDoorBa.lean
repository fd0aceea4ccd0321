/- The contracts of lines.Bare and anvilref10.Bare: what stands ahead of a comment. -/
import Derived.Test.YteleakbefebabaaDoorOt
namespace Go.Proofs.YteleakbefebabaaDoor
open Go.RowKit Go.Shelf

theorem bareF_end (s : ByteArray) (acc : List UInt8) (k : Nat) (hk : k = s.size) : bareF ((tl s).take k) acc ((tl s).drop k) = acc := by
  rw [hk, drop_all]; rfl
theorem bareF_skip (s : ByteArray) (acc : List UInt8) (k : Nat) (h : k < s.size) (hc : ¬ s[k] = 35) : bareF ((tl s).take k) acc ((tl s).drop k) = bareF ((tl s).take (k + 1)) (acc ++ [s[k]]) ((tl s).drop (k + 1)) := by
  rw [drop_at s k h, take_at s k h, bareF, if_neg hc]
theorem bareF_stop (s : ByteArray) (acc : List UInt8) (k : Nat) (h : k < s.size) (hc : s[k] = 35) (ho : opn ((tl s).take k) = false) : bareF ((tl s).take k) acc ((tl s).drop k) = acc := by
  rw [drop_at s k h, bareF, if_pos hc, ho]; rfl
theorem bareF_over (s : ByteArray) (acc : List UInt8) (k : Nat) (h : k < s.size) (hc : s[k] = 35) (ho : opn ((tl s).take k) = true) : bareF ((tl s).take k) acc ((tl s).drop k) = bareF ((tl s).take (k + 1)) (acc.dropLast ++ [s[k]]) ((tl s).drop (k + 1)) := by
  rw [drop_at s k h, take_at s k h, bareF, if_pos hc, if_pos ho]
/-- the piece from a up to k -/
def pc (l : List UInt8) (a k : Nat) : List UInt8 := (l.drop a).take (k - a)
theorem pc_len (s : ByteArray) (a k : Nat) (ha : a ≤ k) (hk : k ≤ s.size) : (pc (tl s) a k).length = k - a := by
  unfold pc; rw [List.length_take, List.length_drop, tl_len]; omega
theorem pc_more (s : ByteArray) (a k : Nat) (ha : a ≤ k) (h : k < s.size) : pc (tl s) a (k + 1) = pc (tl s) a k ++ [s[k]] := by
  unfold pc
  have hl : k - a < ((tl s).drop a).length := by rw [List.length_drop, tl_len]; omega
  rw [show k + 1 - a = (k - a) + 1 by omega, List.take_succ_eq_append_getElem hl]
  congr 2
  rw [List.getElem_drop, ← getD_at s k h, List.getD_eq_getElem?_getD]
  have e : a + (k - a) = k := by omega
  simp only [e]
  rw [List.getElem?_eq_getElem (by rw [tl_len]; exact h)]
  rfl
theorem pc_last (s : ByteArray) (a k : Nat) (ha : a < k) (hk : k ≤ s.size) : (pc (tl s) a k).dropLast = pc (tl s) a (k - 1) := by
  obtain ⟨j, rfl⟩ : ∃ j, k = j + 1 := ⟨k - 1, by omega⟩
  rw [pc_more s a j (by omega) (by omega)]
  simp
theorem pc_self (l : List UInt8) (k : Nat) : pc l k k = [] := by simp [pc]
theorem ext_pc (s : ByteArray) (a k : Nat) : s.extract a k = mk (pc (tl s) a k) := ext_mk s a k

/-- what holds of the builder so far, of the piece that is open, and of the rest -/
structure BaI (s : ByteArray) (bl : List UInt8) (f k : Nat) : Prop where
  le : f ≤ k
  at0 : f = k → k = 0
  eq : bare (tl s) = bareF ((tl s).take k) (bl ++ pc (tl s) f k) ((tl s).drop k)
  sz : bl.length + (k - f) ≤ k
theorem BaI.skip {s : ByteArray} {bl : List UInt8} {f k : Nat} (h : BaI s bl f k) (hk : k < s.size) (hc : ¬ s[k] = 35) : BaI s bl f (k + 1) := by
  have := h.le
  refine ⟨by omega, by omega, ?_, by have := h.sz; omega⟩
  rw [h.eq, bareF_skip s _ k hk hc, pc_more s f k h.le hk, List.append_assoc]
theorem BaI.over {s : ByteArray} {bl : List UInt8} {f k : Nat} (h : BaI s bl f k) (hk : k < s.size) (hc : s[k] = 35) (ho : opn ((tl s).take k) = true) : f + 1 ≤ k ∧ BaI s (bl ++ pc (tl s) f (k - 1)) k (k + 1) := by
  have hle := h.le
  have hf : f < k := by
    rcases Nat.lt_or_ge f k with h1 | h1
    · exact h1
    · have : k = 0 := h.at0 (by omega)
      subst this
      exact absurd rfl (opn_ne (l := (tl s).take 0) ho)
  have hl := pc_len s f (k - 1) (by omega) (by omega)
  refine ⟨hf, by omega, by omega, ?_, by have := h.sz; rw [List.length_append, hl]; omega⟩
  rw [h.eq, bareF_over s _ k hk hc ho, pc_more s k k (Nat.le_refl _) hk, pc_self]
  congr 1
  have hne : pc (tl s) f k ≠ [] := by intro e; have := pc_len s f k hle (by omega); rw [e] at this; simp at this; omega
  rw [List.dropLast_append_of_ne_nil hne, pc_last s f k hf (by omega)]
  simp
theorem BaI.stop {s : ByteArray} {bl : List UInt8} {f k : Nat} (h : BaI s bl f k) (hk : k < s.size) (hc : s[k] = 35) (ho : opn ((tl s).take k) = false) : bare (tl s) = bl ++ pc (tl s) f k := by
  rw [h.eq, bareF_stop s _ k hk hc ho]
theorem BaI.fin {s : ByteArray} {bl : List UInt8} {f : Nat} (h : BaI s bl f s.size) : bare (tl s) = bl ++ pc (tl s) f s.size := by
  rw [h.eq, bareF_end s _ _ rfl]

set_option maxHeartbeats 1000000 in
theorem bare_any (s : ByteArray) (w : World) (hs : s.size ≤ 1000000) :
    Calls Tryd.prog 11 #[.string s] w fun e w' => e = .returned (.string (mk (bare (tl s)))) ∧ Below w.heap.size w w' := by
  obtain ⟨t, HT⟩ : ∃ t, Hid (t = bare (tl s)) := ⟨_, rfl⟩
  rw [← HT.out]
  go_enter Tryd.func11, Tryd.ntmps11
  go_wp2
  go_loopw [0, 4, 8] (fun s0 f i wr => ∃ (k a : Nat) (bl : List UInt8), s0 = .string s ∧ f = .int .i64 a ∧ i = .int .i64 k ∧ k ≤ s.size ∧ BR (w.heap.size + 1) w.heap.size bl wr ∧ Below w.heap.size w wr ∧ w.heap.size + 1 ≤ wr.heap.size ∧ Hid (BaI s bl a k)) (fun _ _ i _ => s.size - (intOf i).toNat)
  case atStart => exact ⟨0, 0, [], rfl, rfl, rfl, Nat.zero_le _, BR.new w _ (by omega), (Below.refl _ w).alloc (Nat.le_refl _) _, by simp, ⟨Nat.le_refl _, fun _ => rfl, by simp [pc, bare], by simp⟩⟩
  case round =>
    obtain ⟨k, a, bl, rfl, rfl, rfl, hk, hbr, hbe, hrm, HB⟩ := hrel
    have hak := HB.out.le
    have hsz := HB.out.sz
    by_cases hlt : k < s.size
    · by_cases h1 : s[k] = 35
      · have k1 := beq_yes s[k] 35 35 rfl h1
        obtain ⟨y, hy⟩ : ∃ y, s.extract 0 k = y := ⟨_, rfl⟩
        have hyt : tl y = (tl s).take k := by rw [← hy, ext_take, tl_mk]
        have hys : y.size = k := by rw [← tl_len, hyt, List.length_take, tl_len]; omega
        have ko := fun w => open_any y w (by omega)
        rw [hyt] at ko
        cases ho : opn ((tl s).take k) with
        | true =>
          obtain ⟨ha1, HB2⟩ := HB.out.over hlt h1 ho
          have HB' := hide' HB2
          rw [ho] at ko
          obtain ⟨j, rfl⟩ : ∃ j, k = j + 1 := ⟨k - 1, by omega⟩
          rw [show j + 1 - 1 = j by omega] at HB'
          clear HB2 ho HB hyt hys h1
          have hw1 : ((j + 1 : Nat) : Int) - 1 = (j : Int) := by omega
          go_wp2_with (go_at_call 16; refine (ko _).mono ?_; rintro e w' ⟨rfl, rfl⟩)
          have hpt : tl (s.extract a j) = pc (tl s) a j := by rw [ext_pc, tl_mk]
          have hpl : (s.extract a j).size = j - a := by rw [← tl_len, hpt, pc_len s a j (by omega) (by omega)]
          refine (wstr_any (w.heap.size + 1) w.heap.size bl (s.extract a j) _ hbr (by omega) hrm).mono ?_
          rintro e W1 ⟨rfl, hb1, hw1'⟩
          rw [hpt] at hb1
          have hbe1 := hbe.trans hw1'.below
          have hrm1 := Nat.le_trans hrm hw1'.below.size
          clear hpt hpl hw1'
          go_wp2
          exact ⟨⟨j + 1 + 1, j + 1, _, rfl, by go_num, by go_num, by omega, hb1, hbe1, hrm1, HB'⟩, by simp [intOf]; omega⟩
        | false =>
          have hfin := HB.out.stop hlt h1 ho
          rw [← HT.out] at hfin
          rw [ho] at ko
          obtain ⟨z, hz⟩ : ∃ z, y.extract a y.size = z := ⟨_, rfl⟩
          have hzt : tl z = pc (tl s) a k := by
            rw [← hz, ext_drop, tl_mk, hyt]
            unfold pc
            rw [List.drop_take]
          have hzs : z.size = k - a := by rw [← tl_len, hzt, pc_len s a k (by omega) (by omega)]
          have hz2 : y.extract a k = z := by rw [← hys]; exact hz
          have HYS := hide' hys
          have hyk : (y.size : Int) = k := by rw [hys]
          have HFIN := hide' hfin
          clear ho HB hyt h1 hfin hys
          go_wp2_with (first | (go_at_call 16; refine (ko _).mono ?_; rintro e w' ⟨rfl, rfl⟩))
          refine (wstr_any (w.heap.size + 1) w.heap.size bl z _ hbr (by omega) hrm).mono ?_
          rintro e W1 ⟨rfl, hb1, hw1⟩
          rw [hzt, ← HFIN.out] at hb1
          have hbe1 := hbe.trans hw1.below
          have hrm1 := Nat.le_trans hrm hw1.below.size
          clear hzt hzs hw1
          go_wp2_with (go_at_call 18; refine (bstr_any (w.heap.size + 1) w.heap.size t _ hb1 hrm1).mono ?_)
          rintro e W2 ⟨rfl, hb2, _⟩
          go_wp2
          go_ret
          exact ⟨rfl, hbe1.trans (hb2.mono (by omega))⟩
      · have k1 := beq_no s[k] 35 35 rfl h1
        have HB' := hide' (HB.out.skip hlt h1)
        clear HB h1
        go_wp2
        exact ⟨⟨k + 1, a, bl, rfl, rfl, by go_num, by omega, hbr, hbe, hrm, HB'⟩, by simp [intOf]; omega⟩
    · obtain rfl : k = s.size := by omega
      have hfin := HB.out.fin
      rw [← HT.out] at hfin
      have HFIN := hide' hfin
      obtain ⟨z, hz⟩ : ∃ z, s.extract a s.size = z := ⟨_, rfl⟩
      have hzt : tl z = pc (tl s) a s.size := by rw [← hz, ext_pc, tl_mk]
      have hzs : z.size = s.size - a := by rw [← tl_len, hzt, pc_len s a s.size (by omega) (by omega)]
      clear HB hfin
      go_wp2_with fail
      refine (wstr_any (w.heap.size + 1) w.heap.size bl z _ hbr (by omega) hrm).mono ?_
      rintro e W1 ⟨rfl, hb1, hw1⟩
      rw [hzt, ← HFIN.out] at hb1
      have hbe1 := hbe.trans hw1.below
      have hrm1 := Nat.le_trans hrm hw1.below.size
      clear hzt hzs hw1
      go_wp2_with (go_at_call 18; refine (bstr_any (w.heap.size + 1) w.heap.size t _ hb1 hrm1).mono ?_)
      rintro e W2 ⟨rfl, hb2, _⟩
      go_wp2
      go_ret
      exact ⟨rfl, hbe1.trans (hb2.mono (by omega))⟩
end Go.Proofs.YteleakbefebabaaDoor
