/- The contract of anvilref10.Bare: what stands ahead of a comment. -/
import Derived.Test.YteleakbefebabaaDoorBa
namespace Go.Proofs.YteleakbefebabaaDoor
open Go.RowKit Go.Shelf

structure RbI (s : ByteArray) (acc : List UInt8) (k : Nat) : Prop where
  eq : bare (tl s) = bareF ((tl s).take k) acc ((tl s).drop k)
  sz : acc.length ≤ k
  ne : 0 < k → 0 < acc.length
theorem RbI.skip {s : ByteArray} {acc : List UInt8} {k : Nat} (h : RbI s acc k) (hk : k < s.size) (hc : ¬ s[k] = 35) : RbI s (acc ++ [s[k]]) (k + 1) :=
  ⟨by rw [h.eq, bareF_skip s _ k hk hc], by have := h.sz; simp; omega, by simp⟩
theorem RbI.over {s : ByteArray} {acc : List UInt8} {k : Nat} (h : RbI s acc k) (hk : k < s.size) (hc : s[k] = 35) (ho : opn ((tl s).take k) = true) : 0 < acc.length ∧ RbI s (acc.dropLast ++ [s[k]]) (k + 1) := by
  have hk0 : 0 < k := by
    rcases Nat.eq_zero_or_pos k with h1 | h1
    · subst h1; exact absurd rfl (opn_ne (l := (tl s).take 0) ho)
    · exact h1
  exact ⟨h.ne hk0, by rw [h.eq, bareF_over s _ k hk hc ho], by have := h.sz; simp; omega, by simp⟩
theorem even_of (n : Nat) : ((n : Int) % 2 == 0) = !(n % 2 == 1) := by
  rcases Nat.mod_two_eq_zero_or_one n with h | h
  · rw [show (n : Int) % 2 = 0 by omega, h]; rfl
  · rw [show (n : Int) % 2 = 1 by omega, h]; rfl

theorem push_row {w W W2 : World} {B : Nat} {v v2 : Value} {acc : List UInt8} {c : UInt8} {tmp : Obj} (hrow : W.ownsRow B 5 1 v acc.length (Lib.byteCells acc)) (hbe : Below B w W) (hB : B ≤ W.heap.size)
    (hown : W2.ownsRow B 5 1 v2 (acc.length + 1) (Lib.byteCells acc ++ [.int .u8 c.toNat])) (hg : (W.alloc tmp).grownBy W2 v.ownBlock) : W2.ownsRow B 5 1 v2 (acc ++ [c]).length (Lib.byteCells (acc ++ [c])) ∧ Below B w W2 := by
  refine ⟨by rw [show Lib.byteCells (acc ++ [c]) = Lib.byteCells acc ++ [.int .u8 c.toNat] by simp [Lib.byteCells], List.length_append]; exact hown, ?_⟩
  refine (hbe.alloc hB tmp).grown hg (by simp; omega) fun j ej => ?_
  rcases hrow.2 with ⟨rfl, _⟩ | ⟨g, cap, cur, rfl, hb, _, _⟩
  · simp [Value.ownBlock] at ej
  · obtain rfl : g = j := by simpa [Value.ownBlock] using ej
    exact hb

set_option maxRecDepth 100000 in
set_option maxHeartbeats 2000000 in
theorem rbare_any (s : ByteArray) (w : World) (hs : s.size ≤ 1000000) :
    Calls Tryd.prog 12 #[.string s] w fun e w' => e = .returned (.string (mk (bare (tl s)))) ∧ Below w.heap.size w w' := by
  obtain ⟨i0, hi, hz0, hz1, hz2⟩ := info_parts info5
  obtain ⟨t, HT⟩ : ∃ t, Hid (t = bare (tl s)) := ⟨_, rfl⟩
  rw [← HT.out]
  go_enter Tryd.func12, Tryd.ntmps12
  go_wp2
  go_loopw [3, 4] (fun b i wr => ∃ (k : Nat) (acc : List UInt8), i = .int .i64 k ∧ k ≤ s.size ∧ wr.ownsRow w.heap.size 5 1 b acc.length (Lib.byteCells acc) ∧ Below w.heap.size w wr ∧ Hid (RbI s acc k)) (fun _ i _ => s.size - (intOf i).toNat)
  case atStart => exact ⟨0, [], rfl, Nat.zero_le _, World.ownsRow_nil _ _ _ _, Below.refl _ _, ⟨rfl, Nat.le_refl _, fun h => by omega⟩⟩
  case round =>
    obtain ⟨k, acc, rfl, hk, hrow, hbe, HB⟩ := hrel
    have hsz := HB.out.sz
    have hrm := hbe.size
    by_cases hlt : k < s.size
    · by_cases h1 : s[k] = 35
      · have k1 := beq_yes s[k] 35 35 rfl h1
        have ks := fun w => slashes_any s k w hs hk
        have hnl := nb_le ((tl s).take k)
        rw [List.length_take, tl_len] at hnl
        have hev := even_of (nb ((tl s).take k))
        cases ho : opn ((tl s).take k) with
        | true =>
          have ho' : (nb ((tl s).take k) % 2 == 1) = true := ho
          obtain ⟨hpos, hB2⟩ := HB.out.over hlt h1 ho
          have HB' := hide' hB2
          rw [ho'] at hev
          obtain ⟨q, HQ⟩ : ∃ q, Hid (q = nb ((tl s).take k)) := ⟨_, rfl⟩
          rw [← HQ.out] at ks hev hnl
          obtain ⟨g, cap, hv⟩ : ∃ g cap, u3 = .slice (some ⟨g, 0, none⟩) acc.length cap := by
            rcases hrow.2 with ⟨_, h0⟩ | ⟨g, cap, cur, hv, _⟩
            · omega
            · exact ⟨g, cap, hv⟩
          subst hv
          have hcap : acc.length ≤ cap ∧ cap ≤ maxLen := by
            rcases hrow.2 with ⟨_, h0⟩ | ⟨g', cap', cur, hv, _, _, h1, h2, _⟩
            · omega
            · cases hv; exact ⟨h1, h2⟩
          obtain ⟨m, hm⟩ : ∃ m, acc.length = m + 1 := ⟨acc.length - 1, by omega⟩
          have hrow2 := row_shrink (k := m) hrow (by omega)
          rw [show acc.take m = acc.dropLast by rw [List.dropLast_eq_take, hm]; rfl] at hrow2
          have hdl : acc.dropLast.length = m := by rw [List.length_dropLast, hm]; rfl
          have hrow3 := hrow2
          rw [hdl] at hrow3
          have HM := hide' hm
          rw [hm] at hcap
          rw [hm] at hrow
          have hw1 : ((m + 1 : Nat) : Int) - 1 = (m : Int) := by omega
          have hq2 : ((q : Int) % 2 == 0) = false := hev
          have hmk : m ≤ k := by omega
          rw [hm]
          clear ho ho' hB2 hev hm HB h1 hsz hpos
          go_wp2_with (first | (go_at_call 19; refine (ks _).mono ?_; rintro e w' ⟨rfl, rfl⟩) | (at_builtin; refine wpList_append_own _ rfl _ _ 39 rfl w.heap.size 5 i0 (.int .u8 0) 1 1 Tryd.underlying39 hi hz0 hz1 hz2 rfl (by decide) _ _ _ rfl (hrow3.alloc _) ⟨_, 0, none⟩ 1 1 [.int .u8 s[k].toNat] rfl rfl (new_cell _ _ _) (by intro u hu; simp at hu; subst hu; rfl) (by unfold maxLen; omega) (by omega) (by simp; omega) ?_; intro v2 W2 hown2 hgrow2 _))
          rw [← hdl] at hown2
          obtain ⟨r1, r2⟩ := push_row hrow2 hbe hrm hown2 hgrow2
          exact ⟨⟨k + 1, acc.dropLast ++ [s[k]], by go_num, by omega, r1, r2, HB'⟩, by simp [intOf]; omega⟩
        | false =>
          have ho' : (nb ((tl s).take k) % 2 == 1) = false := ho
          rw [ho'] at hev
          obtain ⟨q, HQ⟩ : ∃ q, Hid (q = nb ((tl s).take k)) := ⟨_, rfl⟩
          rw [← HQ.out] at ks hev hnl
          have hfin : t = acc := by rw [HT.out, HB.out.eq, bareF_stop s _ k hlt h1 ho]
          have hcv := row_str hrow
          rw [← hfin] at hcv
          have HF := hide' hfin
          have hq2 : ((q : Int) % 2 == 0) = true := hev
          clear ho ho' hev HB h1 hfin
          go_wp2_with (go_at_call 19; refine (ks _).mono ?_; rintro e w' ⟨rfl, rfl⟩)
          go_ret
          exact ⟨rfl, hbe⟩
      · have k1 := beq_no s[k] 35 35 rfl h1
        have HB' := hide' (HB.out.skip hlt h1)
        clear HB h1
        go_wp2_with (at_builtin; refine wpList_append_own _ rfl _ _ 39 rfl w.heap.size 5 i0 (.int .u8 0) 1 1 Tryd.underlying39 hi hz0 hz1 hz2 rfl (by decide) _ _ _ rfl (hrow.alloc _) ⟨wr.heap.size, 0, none⟩ 1 1 [.int .u8 s[k].toNat] rfl rfl (new_cell _ _ _) (by intro u hu; simp at hu; subst hu; rfl) (by unfold maxLen; omega) (by omega) (by simp; omega) ?_; intro v2 W2 hown2 hgrow2 _)
        obtain ⟨r1, r2⟩ := push_row hrow hbe hrm hown2 hgrow2
        exact ⟨⟨k + 1, acc ++ [s[k]], by go_num, by omega, r1, r2, HB'⟩, by simp [intOf]; omega⟩
    · obtain rfl : k = s.size := by omega
      have hfin : t = acc := by rw [HT.out, HB.out.eq, bareF_end s _ _ rfl]
      have hcv := row_str hrow
      rw [← hfin] at hcv
      have HF := hide' hfin
      clear HB hfin
      go_wp2
      go_ret
      exact ⟨rfl, hbe⟩
end Go.Proofs.YteleakbefebabaaDoor
