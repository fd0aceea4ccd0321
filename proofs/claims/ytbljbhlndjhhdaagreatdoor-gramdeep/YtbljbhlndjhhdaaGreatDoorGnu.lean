/- number; script; the catcher of a parser that gave up. -/
import Derived.Test.YtbljbhlndjhhdaaGreatDoorGer
import Derived.Test.YtbljbhlndjhhdaaGreatDoorGnp
import Derived.Test.YtbljbhlndjhhdaaGreatDoorRec
namespace Go.Proofs.YtbljbhlndjhhdaaGreatDoor
open Go.RowKit

/-- the variable of package errors -/
def EtW (w : World) : Prop := w.cell? ⟨0, 0, none⟩ = some (.iface 121 (.agg #[.pointer (some ⟨4, 48, none⟩)]))
set_option maxHeartbeats 2000000 in
theorem number_any (b : Nat) (n : Int) (w : World) (hE : EtW w) (h1 : w.cell? ⟨b, 1, none⟩ = some (.iface 29 (.int .i64 n))) :
    Calls Tryz.prog 17 #[.iface 107 (.pointer (some ⟨b, 0, none⟩))] w fun r w' => r = .returned (.int .i64 n) ∧ Below w.heap.size w w' := by
  have hb : Below w.heap.size w (w.alloc (.cells #[.int .i64 0] 29)) := (Below.refl _ _).alloc (Nat.le_refl _) _
  have hlt : 0 < w.heap.size := lt_of_cell? hE
  have hbl : b < w.heap.size := lt_of_cell? h1
  have q2 := as_fault b n ⟨w.heap.size, 0, none⟩ (.int .i64 0) (w.alloc (.cells #[.int .i64 0] 29)) ((hb.cell (p := ⟨0, 0, none⟩) hlt).trans hE) ((hb.cell (p := ⟨b, 1, none⟩) hbl).trans h1) (by simp) (by simp)
  generalize hX : (((((w.alloc (.cells #[.int .i64 0] 29)).alloc (.cells #[.pointer (some ⟨w.heap.size, 0, none⟩)] 70)).alloc (.cells #[.pointer (some ⟨4, 70, none⟩), .pointer (some ⟨(w.alloc (.cells #[.int .i64 0] 29)).heap.size, 0, none⟩), .int .u64 150] 96)).alloc (.cells #[.pointer (some ⟨4, 70, none⟩), .pointer (some ⟨(w.alloc (.cells #[.int .i64 0] 29)).heap.size, 0, none⟩), .int .u64 150] 96)).alloc (.cells #[.int .i64 n] 29)).setCell ⟨w.heap.size, 0, none⟩ (.int .i64 n) = X at q2
  have cx : X.cell? ⟨w.heap.size, 0, none⟩ = some (.int .i64 n) := by
    rw [← hX]
    refine World.cell?_setCell_same' _ _ _ ?_
    rw [World.cell?_alloc_lt _ _ ⟨w.heap.size, 0, none⟩ (by simp; omega), World.cell?_alloc_lt _ _ ⟨w.heap.size, 0, none⟩ (by simp; omega), World.cell?_alloc_lt _ _ ⟨w.heap.size, 0, none⟩ (by simp; omega), World.cell?_alloc_lt _ _ ⟨w.heap.size, 0, none⟩ (by simp)]
    simp
  have hbX : Below w.heap.size w X := by
    rw [← hX]
    exact (((((hb.alloc (by simp) _).alloc (by simp; omega) _).alloc (by simp; omega) _).alloc (by simp; omega) _).setCell (p := ⟨w.heap.size, 0, none⟩) (Nat.le_refl _) _)
  clear hX
  go_enter Tryz.func17, Tryz.ntmps17
  go_wp2_with fail
  refine q2.mono ?_
  rintro r w2 ⟨rfl, rfl⟩
  go_wp2
  go_ret
  exact ⟨rfl, hbX⟩
end Go.Proofs.YtbljbhlndjhhdaaGreatDoor
