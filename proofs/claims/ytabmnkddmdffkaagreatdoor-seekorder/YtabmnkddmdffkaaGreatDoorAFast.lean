/- The contract of (*FS).fasten, as a deferred call. -/
import Derived.Test.YtabmnkddmdffkaaGreatDoorANode
import Derived.Defers
namespace Go.Proofs.YtabmnkddmdffkaaGreatDoor
open Go.RowKit Go.Maps

theorem fasten_none (A : Nat) (clk : Int) (u : FrameMode) (w : World) (c2 : w.cell? ⟨A, 2, none⟩ = some (.int .i64 clk)) (f2 : w.frozen? ⟨A, 2, none⟩ = false) (h0 : 0 ≤ clk) (h1 : clk ≤ 1099511627776000) :
    CallsD Tryz.prog 101 #[.pointer (some ⟨A, 0, none⟩), .slice none 0 0] u w fun e u' w' => u' = u ∧ (e = .returned (.tuple #[]) ∧ w' = w.setCell ⟨A, 2, none⟩ (.int .i64 (clk + 1))) := by
  go_enter_d Tryz.func101, Tryz.ntmps101
  go_wp2
  refine wp_loop_rounds 1 ?_
  rw [rounds_succ]
  go_wp2
  go_end0
  exact ⟨rfl, rfl⟩
set_option maxHeartbeats 1000000 in
theorem fasten_one (A V b : Nat) (clk t : Int) (u : FrameMode) (w : World) (hb : b ≠ A) (hV : V ≠ A) (c2 : w.cell? ⟨A, 2, none⟩ = some (.int .i64 clk)) (f2 : w.frozen? ⟨A, 2, none⟩ = false) (h0 : 0 ≤ clk) (h1 : clk ≤ 1099511627776000)
    (cv : w.cell? ⟨V, 0, none⟩ = some (.pointer (some ⟨b, 0, none⟩))) (ct : w.cell? ⟨b, 1, none⟩ = some (.int .i64 t)) (ft : w.frozen? ⟨b, 1, none⟩ = false) :
    CallsD Tryz.prog 101 #[.pointer (some ⟨A, 0, none⟩), .slice (some ⟨V, 0, none⟩) 1 1] u w fun e u' w' => u' = u ∧ (e = .returned (.tuple #[]) ∧ w' = (w.setCell ⟨A, 2, none⟩ (.int .i64 (clk + 1))).setCell ⟨b, 1, none⟩ (.int .i64 (clk + 1))) := by
  have d2 : (w.setCell ⟨A, 2, none⟩ (.int .i64 (clk + 1))).cell? ⟨A, 2, none⟩ = some (.int .i64 (clk + 1)) := World.cell?_setCell_same' _ _ _ (by rw [c2]; rfl)
  have dv : (w.setCell ⟨A, 2, none⟩ (.int .i64 (clk + 1))).cell? ⟨V, 0, none⟩ = some (.pointer (some ⟨b, 0, none⟩)) := (World.cell?_of_block (a := ⟨V, 0, none⟩) (Below.heap_setCell _ _ _ V hV)).trans cv
  have dt : (w.setCell ⟨A, 2, none⟩ (.int .i64 (clk + 1))).cell? ⟨b, 1, none⟩ = some (.int .i64 t) := (World.cell?_of_block (a := ⟨b, 1, none⟩) (Below.heap_setCell _ _ _ b hb)).trans ct
  have df : (w.setCell ⟨A, 2, none⟩ (.int .i64 (clk + 1))).frozen? ⟨b, 1, none⟩ = false := (World.frozen?_of_block (a := ⟨b, 1, none⟩) (Below.heap_setCell _ _ _ b hb)).trans ft
  go_enter_d Tryz.func101, Tryz.ntmps101
  go_wp2
  refine wp_loop_rounds 2 ?_
  rw [rounds_succ]
  go_wp2
  rw [rounds_succ]
  go_wp2
  go_end0
  exact ⟨rfl, rfl⟩
def aged (e : En) (t : Int) : En := { e with nd := { e.nd with time := t } }
theorem node_ne {w : World} {e : En} {A M : Nat} {wt clk rm : Int} (hn : NodeAt w e) (h : Fb w A M wt clk rm) : e.blk ≠ A := by
  intro e1
  unfold NodeAt at hn
  unfold Fb at h
  rw [e1, h] at hn
  simp at hn
theorem node_ne_map {w : World} {e : En} {M : Nat} {L : Ents} (hn : NodeAt w e) (h : Mp w M L) : e.blk ≠ M := by
  intro e1
  unfold NodeAt at hn
  obtain ⟨es, c, hm⟩ := h.isMap
  rw [e1, hm] at hn
  cases hn
/-- fasten(n) -/
theorem fasten_node (A M V : Nat) (L : Ents) (wt clk rm : Int) (e : En) (u : FrameMode) (w : World) (hf : Fb w A M wt clk rm) (hm : Mp w M L) (hn : NodeAt w e) (h0 : 0 ≤ clk) (h1 : clk ≤ 1099511627776000) (hV : V ≠ A)
    (cv : w.cell? ⟨V, 0, none⟩ = some (.pointer (some ⟨e.blk, 0, none⟩))) :
    CallsD Tryz.prog 101 #[.pointer (some ⟨A, 0, none⟩), .slice (some ⟨V, 0, none⟩) 1 1] u w fun r u' w' => u' = u ∧ r = .returned (.tuple #[]) ∧ Fb w' A M wt (clk + 1) rm ∧ Mp w' M L ∧ NodeAt w' (aged e (clk + 1)) ∧ Turn (fun k => k = A ∨ k = e.blk) w w' := by
  have hA := node_ne hn hf
  have hM := node_ne_map hn hm
  have hne := hm.ne hf
  refine (fasten_one A V e.blk clk e.nd.time u w hA hV hf.c2 (hf.fz 2) h0 h1 cv hn.c1 (hn.fz 1)).mono ?_
  rintro r u' w' ⟨rfl, rfl, rfl⟩
  refine ⟨rfl, rfl, (hf.set2 (clk + 1)).kept (Below.heap_setCell _ _ _ _ hA.symm), hm.kept ((Below.heap_setCell _ _ _ _ hM.symm).trans (Below.heap_setCell _ _ _ _ hne)), ?_, ?_⟩
  · have hn2 : NodeAt (w.setCell ⟨A, 2, none⟩ (.int .i64 (clk + 1))) e := (Below.heap_setCell _ _ _ _ hA).trans hn
    exact hn2.set1 (clk + 1)
  · exact ⟨rfl, rfl, rfl, Nat.le_of_eq (by simp), fun k _ hk => (Below.heap_setCell _ _ _ _ fun e => hk (.inr e)).trans (Below.heap_setCell _ _ _ _ fun e => hk (.inl e))⟩
/-- fasten() -/
theorem fasten_clock (A M : Nat) (L : Ents) (wt clk rm : Int) (u : FrameMode) (w : World) (hf : Fb w A M wt clk rm) (hm : Mp w M L) (h0 : 0 ≤ clk) (h1 : clk ≤ 1099511627776000) :
    CallsD Tryz.prog 101 #[.pointer (some ⟨A, 0, none⟩), .slice none 0 0] u w fun r u' w' => u' = u ∧ r = .returned (.tuple #[]) ∧ Fb w' A M wt (clk + 1) rm ∧ Mp w' M L ∧ Turn (fun k => k = A) w w' := by
  have hne := hm.ne hf
  refine (fasten_none A clk u w hf.c2 (hf.fz 2) h0 h1).mono ?_
  rintro r u' w' ⟨rfl, rfl, rfl⟩
  exact ⟨rfl, rfl, hf.set2 (clk + 1), hm.kept (Below.heap_setCell _ _ _ _ hne), ⟨rfl, rfl, rfl, Nat.le_of_eq (by simp), fun k _ hk => Below.heap_setCell _ _ _ _ hk⟩⟩
end Go.Proofs.YtabmnkddmdffkaaGreatDoor
