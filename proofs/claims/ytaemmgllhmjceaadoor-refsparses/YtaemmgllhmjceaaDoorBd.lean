/- The contracts of strings.Clone, refs.Bounds and refs.Funcs. -/
import Derived.Test.YtaemmgllhmjceaaDoorLk
import Derived.Test.YtaemmgllhmjceaaDoorShelf
import Derived.Laws.AppendOwnNone
import Derived.Laws.MakeOwn
namespace Go.Proofs.YtaemmgllhmjceaaDoor
open Go.RowKit

theorem clone_any (s : ByteArray) (w : World) (hlim : s.size ≤ 281474976710656) :
    Calls Tryd.prog 29 #[.string s] w fun e w' => e = .returned (.string s) ∧ Below w.heap.size w w' := by
  go_enter Tryd.func29, Tryd.ntmps29
  go_wp2_with (go_at_call 39; refine (Tryd.stringslite_Clone _ _ hlim).mono ?_; rintro e w' ⟨rfl, hb⟩)
  go_ret
  exact ⟨rfl, hb⟩
set_option maxHeartbeats 1000000 in
theorem bounds_any (s : ByteArray) (w : World) (hF : FnsAt w 0) :
    Calls Tryd.prog 18 #[.string s] w fun e w' => e = .returned (.tuple #[.int .i64 (fnF (fnd (tl s))).2.1, .int .i64 (fnF (fnd (tl s))).2.2]) ∧ Below w.heap.size w w' := by
  have kL := lookup_any s w hF
  generalize (fnd (tl s)).isSome = b at kL
  generalize fnF (fnd (tl s)) = f at kL ⊢
  obtain ⟨n, x, y⟩ := f
  dsimp only [fnV] at kL ⊢
  generalize mk n = n at kL
  go_enter Tryd.func18, Tryd.ntmps18
  go_wp2_with (go_at_call 31; refine kL.mono ?_; rintro e w1 ⟨rfl, hb1⟩)
  go_quiet (fail)
  go_wp2
  go_ret2
  exact ⟨rfl, (hb1.alloc hb1.size _).trans (below_drewn _)⟩
/-- a row of texts, its first k told -/
def RowT (w : World) (b : Nat) (n : Nat) (f : Nat → ByteArray) (k : Nat) : Prop :=
  ∃ cur, w.heap[b]? = some (.cells cur 9 (0, 0)) ∧ cur.size = n ∧ ∀ j, j < k → cur[j]? = some (.string (f j))
theorem RowT.lt {w : World} {b n k : Nat} {f : Nat → ByteArray} (h : RowT w b n f k) : b < w.heap.size := by obtain ⟨c, h, _⟩ := h; exact lt_of_block h
theorem RowT.fz {w : World} {b n k : Nat} {f : Nat → ByteArray} (h : RowT w b n f k) (j : Nat) : w.frozen? ⟨b, j, none⟩ = false := by obtain ⟨c, h, _⟩ := h; exact Lib.frozen_of_heap h j
theorem RowT.ex {w : World} {b n k : Nat} {f : Nat → ByteArray} (h : RowT w b n f k) {j : Nat} (hj : j < n) : ∃ v, w.cell? ⟨b, j, none⟩ = some v := by
  obtain ⟨c, h, h2, _⟩ := h
  exact ⟨c[j], by rw [Lib.cell_of_heap h, Array.getElem?_eq_getElem (by omega)]⟩
theorem RowT.below {w w' : World} {b n k : Nat} {f : Nat → ByteArray} (h : RowT w b n f k) (hb : Below w.heap.size w w') : RowT w' b n f k := by
  have := h.lt
  obtain ⟨c, h, h2⟩ := h
  exact ⟨c, (hb.block b this).trans h, h2⟩
theorem RowT.set {w : World} {b n k : Nat} {f : Nat → ByteArray} (h : RowT w b n f k) (hk : k < n) : RowT (w.setCell ⟨b, k, none⟩ (.string (f k))) b n f (k + 1) := by
  obtain ⟨c, h, h2, h3⟩ := h
  refine ⟨_, set_block h k _, by simp [h2], fun j hj => ?_⟩
  by_cases hjk : j = k
  · subst hjk; simp [show j < c.size by omega]
  · rw [Array.getElem?_setIfInBounds_ne (Ne.symm hjk)]; exact h3 j (by omega)
theorem RowT.own {w : World} {b n : Nat} {f : Nat → ByteArray} (h : RowT w b n f n) (hn : n ≤ maxLen) {B : Nat} (hB : B ≤ b) : w.ownsRow B 9 1 (.slice (some ⟨b, 0, none⟩) n n) n ((List.range n).map fun j => Value.string (f j)) := by
  obtain ⟨c, h, h2, h3⟩ := h
  refine ⟨by simp, .inr ⟨b, n, c, rfl, hB, h, Nat.le_refl _, hn, by omega, ?_⟩⟩
  apply List.ext_getElem?
  intro j
  by_cases hj : j < n
  · rw [List.getElem?_take_of_lt (by omega), List.getElem?_map, List.getElem?_range hj]
    have := h3 j hj
    simpa using this
  · rw [List.getElem?_eq_none (by simp; omega), List.getElem?_eq_none (by simp; omega)]
/-- the names, as values -/
def nmV : List Value := (List.range 34).map fun j => Value.string (nmA j)
theorem nm_size (k : Nat) (hk : k < 34) : (nmA k).size ≤ 10 := by
  have := (fn_small k hk).1
  rw [← tl_len, tl_nm]
  exact this
set_option maxRecDepth 100000 in
set_option maxHeartbeats 2000000 in
theorem funcs_any (w : World) (hF : FnsAt w 0) :
    Calls Tryd.prog 15 #[] w fun e w' => ∃ v, e = .returned v ∧ w'.ownsRow w.heap.size 9 1 v 34 nmV ∧ Below w.heap.size w w' := by
  obtain ⟨i0, hi, hz0, hz1, hz2⟩ := info_parts info9
  have hmk : ∀ W, (Instr.makeSlice 28 (.int .i64 34) (.int .i64 34)).run Tryd.prog W = .ok (.slice (some ⟨W.heap.size, 0, none⟩) 34 34) (W.alloc (.cells (madeCells #[.string ⟨#[]⟩] 34) 9)) := fun W => by
    have := run_make (P := Tryd.prog) (w := W) 28 9 i0 (.string ⟨#[]⟩) Tryd.underlying28 hi hz0 .i64 .i64 34 34 (by omega) (by omega) (by rw [hz2]; omega) (by omega)
    rw [hz1] at this
    simpa [Value.cells] using this
  clear hi hz0 hz1 hz2
  go_enter Tryd.func15, Tryd.ntmps15
  go_wp2
  go_loopw [6] (fun i wr => ∃ k : Nat, k ≤ 34 ∧ i = .int .i64 k ∧ RowT wr w.heap.size 34 nmA k ∧ Below w.heap.size w wr) (fun i _ => 34 - (intOf i).toNat)
  case atStart => exact ⟨0, Nat.zero_le _, rfl, ⟨_, heap_alloc_new w _, size_madeCells _ _, fun j hj => absurd hj (Nat.not_lt_zero j)⟩, (Below.refl _ w).alloc (Nat.le_refl _) _⟩
  case round =>
    obtain ⟨k, hk, rfl, hR, hB⟩ := hrel
    by_cases hlt : k < 34
    · have c0 := (hF.low hF.lt hB).name k hlt
      have kC := fun w => clone_any (nmA k) w (by have := nm_size k hlt; omega)
      have HR := hide' hR
      clear hR hmk
      go_wp2_with (go_at_call 29; refine (kC _).mono ?_; rintro e w1 ⟨rfl, hb1⟩; have hR1 := HR.out.below hb1; obtain ⟨x0, c1⟩ := hR1.ex hlt; have f1 := hR1.fz k; have HR1 := hide' hR1; clear hR1)
      exact ⟨⟨k + 1, by omega, by go_num, HR1.out.set hlt, (hB.trans (hb1.mono hB.size)).setCell (p := ⟨w.heap.size, k, none⟩) (Nat.le_refl _) _⟩, by simp [intOf]; omega⟩
    · obtain rfl : k = 34 := by omega
      clear hmk
      go_wp2
      go_ret
      exact ⟨_, rfl, hR.own (by decide) (Nat.le_refl _), hB⟩
end Go.Proofs.YtaemmgllhmjceaaDoor
