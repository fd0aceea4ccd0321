/- What the package variables hold; the contract of db.builtins. -/
import Derived.Test.YtkmedgdpcifnoaaDoorTo
import Derived.Lib.SmallJoins
import Derived.Deep.QuietTactic
import Derived.Deep.Cut
import Derived.Deep.CutBlock
namespace Go.Proofs.YtkmedgdpcifnoaaDoor
open Go.RowKit Go.Shelf

def bltF : List Bs := bltT.flatMap fun x => [x.1, x.2.1, x.2.2]
theorem gP : Tryd.prog.globalNamed "internal/strconv.uint64pow10" = some 1 := by kernel_rfl
/-- what the listed variables hold -/
structure Glo (w : World) : Prop where
  blt : ∀ i, i < 12 → w.cell? ⟨0, i, none⟩ = some (sV (bltF.getD i []))
  tab : Lib.TabIs Tryd.prog w "internal/strconv.uint64pow10" .u64 Lib.pow10Tab
theorem Glo.pos {w : World} (h : Glo w) : 0 < w.heap.size := World.block_lt_of_cell? _ _ (h.blt 0 (by omega))
theorem Glo.below {w w' : World} (h : Glo w) (hb : Below w.heap.size w w') : Glo w' := ⟨fun i hi => (hb.cell (p := ⟨0, i, none⟩) h.pos).trans (h.blt i hi), Joins.tab_stays gP h.tab hb (Nat.le_refl _)⟩
abbrev bltV : Value := .agg #[.string ⟨#[37, 46, 111]⟩, .string ⟨#[37, 46, 99]⟩, .string ⟨#[36, 40, 67, 67, 41, 32, 45, 99, 32, 36, 40, 67, 70, 76, 65, 71, 83, 41, 32, 45, 111, 32, 36, 64, 32, 36, 60]⟩, .string ⟨#[37]⟩, .string ⟨#[37, 46, 111]⟩, .string ⟨#[36, 40, 67, 67, 41, 32, 36, 40, 76, 68, 70, 76, 65, 71, 83, 41, 32, 45, 111, 32, 36, 64, 32, 36, 94]⟩, .string ⟨#[37]⟩, .string ⟨#[37, 46, 99]⟩, .string ⟨#[36, 40, 67, 67, 41, 32, 36, 40, 67, 70, 76, 65, 71, 83, 41, 32, 45, 111, 32, 36, 64, 32, 36, 60]⟩, .string ⟨#[40, 37, 41]⟩, .string ⟨#[37]⟩, .string ⟨#[36, 40, 65, 82, 41, 32, 36, 40, 65, 82, 70, 76, 65, 71, 83, 41, 32, 36, 64, 32, 36, 60]⟩]
set_option maxRecDepth 100000 in
theorem blt_index (k : Nat) (hk : k < 4) (W : World) : (Instr.index 92 bltV (.int .i64 k)).run Tryd.prog W = .ok (.agg #[sV (bltT.getD k ([], [], [])).1, sV (bltT.getD k ([], [], [])).2.1, sV (bltT.getD k ([], [], [])).2.2]) W := by
  rcases (show k = 0 ∨ k = 1 ∨ k = 2 ∨ k = 3 by omega) with rfl | rfl | rfl | rfl <;> kernel_rfl
set_option maxRecDepth 100000 in
set_option maxHeartbeats 4000000 in
theorem builtins_any (w : World) (h : Glo w) :
    Calls Tryd.prog 33 #[] w fun e w' => ∃ v, e = .returned v ∧ ∃ L, OwnR w' w.heap.size v L ∧ L.map (·.r) = bltP ∧ Below w.heap.size w w' := by
  have e0 : w.cell? ⟨0, 0, none⟩ = some (.string ⟨#[37, 46, 111]⟩) := h.blt 0 (by omega)
  have e1 : w.cell? ⟨0, 1, none⟩ = some (.string ⟨#[37, 46, 99]⟩) := h.blt 1 (by omega)
  have e2 : w.cell? ⟨0, 2, none⟩ = some (.string ⟨#[36, 40, 67, 67, 41, 32, 45, 99, 32, 36, 40, 67, 70, 76, 65, 71, 83, 41, 32, 45, 111, 32, 36, 64, 32, 36, 60]⟩) := h.blt 2 (by omega)
  have e3 : w.cell? ⟨0, 3, none⟩ = some (.string ⟨#[37]⟩) := h.blt 3 (by omega)
  have e4 : w.cell? ⟨0, 4, none⟩ = some (.string ⟨#[37, 46, 111]⟩) := h.blt 4 (by omega)
  have e5 : w.cell? ⟨0, 5, none⟩ = some (.string ⟨#[36, 40, 67, 67, 41, 32, 36, 40, 76, 68, 70, 76, 65, 71, 83, 41, 32, 45, 111, 32, 36, 64, 32, 36, 94]⟩) := h.blt 5 (by omega)
  have e6 : w.cell? ⟨0, 6, none⟩ = some (.string ⟨#[37]⟩) := h.blt 6 (by omega)
  have e7 : w.cell? ⟨0, 7, none⟩ = some (.string ⟨#[37, 46, 99]⟩) := h.blt 7 (by omega)
  have e8 : w.cell? ⟨0, 8, none⟩ = some (.string ⟨#[36, 40, 67, 67, 41, 32, 36, 40, 67, 70, 76, 65, 71, 83, 41, 32, 45, 111, 32, 36, 64, 32, 36, 60]⟩) := h.blt 8 (by omega)
  have e9 : w.cell? ⟨0, 9, none⟩ = some (.string ⟨#[40, 37, 41]⟩) := h.blt 9 (by omega)
  have e10 : w.cell? ⟨0, 10, none⟩ = some (.string ⟨#[37]⟩) := h.blt 10 (by omega)
  have e11 : w.cell? ⟨0, 11, none⟩ = some (.string ⟨#[36, 40, 65, 82, 41, 32, 36, 40, 65, 82, 70, 76, 65, 71, 83, 41, 32, 36, 64, 32, 36, 60]⟩) := h.blt 11 (by omega)
  have hpos := h.pos
  clear h
  go_enter Tryd.func33, Tryd.ntmps33
  go_wp2
  go_loopw [5, 1] (fun i l wr => ∃ (k : Nat) (L' : List Rx), k ≤ 4 ∧ i = .int .i64 k ∧ OwnR wr w.heap.size l L' ∧ L'.map (·.r) = bltP.take k ∧ Below w.heap.size w wr) (fun i _ _ => 4 - (intOf i).toNat)
  case atStart => exact ⟨0, [], Nat.zero_le _, rfl, OwnR.nil _ _, rfl, Below.refl _ _⟩
  case round =>
    clear e0 e1 e2 e3 e4 e5 e6 e7 e8 e9 e10 e11
    obtain ⟨k, L', hk, rfl, hrow, hm, hB⟩ := hrel
    have hle : L'.length = k := by have h1 := congrArg List.length hm; simp at h1; have h2 : bltP.length = 4 := rfl; omega
    obtain ⟨a1, c1, rfl⟩ := hrow.form
    rw [hle] at hrow ⊢
    by_cases hlt : k < 4
    · have hidx := blt_index k hlt
      have HT : Hid (∀ y : Rx, y.r = bltR (bltT.getD k ([], [], [])).1 (bltT.getD k ([], [], [])).2.1 (bltT.getD k ([], [], [])).2.2 → (L' ++ [y]).map (·.r) = bltP.take (k + 1)) := fun y hy => by
        rw [List.map_append, hm, List.map_singleton, hy]
        rcases (show k = 0 ∨ k = 1 ∨ k = 2 ∨ k = 3 by omega) with rfl | rfl | rfl | rfl <;> rfl
      generalize bltT.getD k ([], [], []) = x at hidx HT
      obtain ⟨x1, x2, x3⟩ := x
      simp only at hidx HT
      have hsz := hB.size
      have hb0 : Below wr.heap.size wr (wr.alloc (.cells #[sV x1, sV x2, sV x3] 91)) := (Below.refl _ _).alloc (Nat.le_refl _) _
      have hb1 : Below wr.heap.size wr ((wr.alloc (.cells #[sV x1, sV x2, sV x3] 91)).alloc (.cells #[sV x1] 9)) := below_alloc hb0 (Nat.le_refl _) _
      have hb2 : Below wr.heap.size wr (((wr.alloc (.cells #[sV x1, sV x2, sV x3] 91)).alloc (.cells #[sV x1] 9)).alloc (.cells #[sV x2] 9)) := below_alloc hb1 (Nat.le_refl _) _
      have hb3 : Below wr.heap.size wr ((((wr.alloc (.cells #[sV x1, sV x2, sV x3] 91)).alloc (.cells #[sV x1] 9)).alloc (.cells #[sV x2] 9)).alloc (.cells #[sV x3] 9)) := below_alloc hb2 (Nat.le_refl _) _
      have r1 := one_row (wr.alloc (.cells #[sV x1, sV x2, sV x3] 91)) w.heap.size x1 (mk x1) (Nat.le_trans hsz hb0.size) rfl
      have r2 := one_row ((wr.alloc (.cells #[sV x1, sV x2, sV x3] 91)).alloc (.cells #[sV x1] 9)) w.heap.size x2 (mk x2) (Nat.le_trans hsz hb1.size) rfl
      have r3 := one_row (((wr.alloc (.cells #[sV x1, sV x2, sV x3] 91)).alloc (.cells #[sV x1] 9)).alloc (.cells #[sV x2] 9)) w.heap.size x3 (mk x3) (Nat.le_trans hsz hb2.size) rfl
      have r1' := own_below (own_below r1 ((Below.refl _ _).alloc (Nat.le_refl _) (.cells #[sV x2] 9))) ((Below.refl _ _).alloc (Nat.le_refl _) (.cells #[sV x3] 9))
      have r2' := own_below r2 ((Below.refl _ _).alloc (Nat.le_refl _) (.cells #[sV x3] 9))
      have hq := hrow.below hb3
      rw [World.size_alloc] at r1'
      rw [World.size_alloc, World.size_alloc] at r2'
      rw [World.size_alloc, World.size_alloc, World.size_alloc] at r3
      have hy : RxO ((((wr.alloc (.cells #[sV x1, sV x2, sV x3] 91)).alloc (.cells #[sV x1] 9)).alloc (.cells #[sV x2] 9)).alloc (.cells #[sV x3] 9)) w.heap.size ⟨bltR x1 x2 x3, .slice (some ⟨wr.heap.size + 1, 0, none⟩) 1 1, .slice (some ⟨wr.heap.size + 1 + 1, 0, none⟩) 1 1, .slice none 0 0, .slice (some ⟨wr.heap.size + 1 + 1 + 1, 0, none⟩) 1 1⟩ := ⟨r1', r2', World.ownsRow_nil _ _ _ _, r3⟩
      have hs3 := Nat.le_trans hsz hb3.size
      have HQ := hide' hq
      have HY := hide' hy
      have HB3 := hide' hb3
      have HB := hide' hB
      have HLE := hide' hle
      clear r1 r2 r3 r1' r2' hb0 hb1 hb2 hq hy hb3 hrow hm hB hle
      dsimp only [sV] at hidx hs3
      go_wp2_with (at_builtin; refine wpList_addR HLE.out.symm rfl _ _ rfl HQ.out _ _ _ _ _ _ _ _ _ _ _ _ rfl HY.out (by have := HLE.out; omega) hs3 rfl (by simp only [World.size_alloc]; rfl) ?_; intro g cap2 w16 hq16 hb16)
      exact ⟨⟨k + 1, _, by omega, by go_num, hq16, HT.out _ rfl, (HB.out.trans (HB3.out.mono HB.out.size)).trans hb16⟩, by simp [intOf]; omega⟩
    · have hke : bltP.take k = bltP := List.take_of_length_le (by have h2 : bltP.length = 4 := rfl; omega)
      rw [hke] at hm
      have HO := hide' hrow
      have HM := hide' hm
      clear hrow hke hm
      go_wp2
      go_ret
      exact ⟨_, rfl, L', HO.out, HM.out, hB⟩
end Go.Proofs.YtkmedgdpcifnoaaDoor
