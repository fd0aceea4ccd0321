/- The contract of vfs.number. -/
import Derived.Test.YtabmnkddmdffkaaGreatDoorALook
import Derived.Test.YtabmnkddmdffkaaGreatDoorAErr
namespace Go.Proofs.YtabmnkddmdffkaaGreatDoor
open Go.RowKit

/-- what an error is: none, a fault that holds a number, or the one that nothing is there -/
inductive Er where
  | ok
  | no (n : Nat)
  | nothing
def Er.num : Er → Nat
  | .ok => 0
  | .no n => n
  | .nothing => 10
def IsErr (w : World) (E : Addr) (v : Value) : Er → Prop
  | .ok => v = .nilIface
  | .no n => ∃ b, v = .iface 105 (.pointer (some ⟨b, 0, none⟩)) ∧ Flt w b n
  | .nothing => ∃ b, v = .iface 105 (.pointer (some ⟨b, 0, none⟩)) ∧ FltN w b E
theorem Flt.below {w w' : World} {b : Nat} {n : Int} (h : Flt w b n) (hb : Below w.heap.size w w') : Flt w' b n := by
  obtain ⟨p, h⟩ := h
  exact ⟨p, (hb.block b (lt_of_block h)).trans h⟩
theorem FltN.below {w w' : World} {b : Nat} {E : Addr} (h : FltN w b E) (hb : Below w.heap.size w w') : FltN w' b E := by
  obtain ⟨p, h⟩ := h
  exact ⟨p, (hb.block b (lt_of_block h)).trans h⟩
theorem Flt.c1 {w : World} {b : Nat} {n : Int} (h : Flt w b n) : w.cell? ⟨b, 1, none⟩ = some (.iface 31 (.int .i64 n)) := by
  obtain ⟨p, h⟩ := h
  rw [Lib.cell_of_heap h]; rfl
theorem FltN.c1 {w : World} {b : Nat} {E : Addr} (h : FltN w b E) : w.cell? ⟨b, 1, none⟩ = some (.iface 289 (.pointer (some E))) := by
  obtain ⟨p, h⟩ := h
  rw [Lib.cell_of_heap h]; rfl

set_option maxHeartbeats 1000000 in
theorem number_any (B : Nat) (E : Addr) (v : Value) (k : Er) (w : World) (hG : Glo B w E) (hv : IsErr w E v k) :
    Calls Tryz.prog 22 #[v] w fun r w' => r = .returned (.int .i64 (k.num : Nat)) ∧ Below w.heap.size w w' := by
  have c0 := hG.c0
  cases k with
  | ok =>
    obtain rfl : v = .nilIface := hv
    go_enter Tryz.func22, Tryz.ntmps22
    go_wp2_with fail
    refine (is_nil E _).mono ?_
    rintro r w1 ⟨rfl, rfl⟩
    go_wp2_with fail
    refine (as_nil _ _).mono ?_
    rintro r w1 ⟨rfl, rfl⟩
    go_wp2
    go_ret
    exact ⟨rfl, (Below.refl _ _).alloc (Nat.le_refl _) _⟩
  | nothing =>
    obtain ⟨b, rfl, hf⟩ := hv
    have q := is_hit b E w hf.c1
    go_enter Tryz.func22, Tryz.ntmps22
    go_wp2_with fail
    refine q.mono ?_
    rintro r w1 ⟨rfl, rfl⟩
    go_wp2
    go_ret
    exact ⟨rfl, Below.refl _ _⟩
  | no n =>
    obtain ⟨b, rfl, hf⟩ := hv
    have q := is_miss b n E w hf.c1
    have hb : Below w.heap.size w (w.alloc (.cells #[.int .i64 0] 31)) := (Below.refl _ _).alloc (Nat.le_refl _) _
    have hlt : 2 < w.heap.size := lt_of_cell? hG.c1
    have q2 := as_fault b n ⟨w.heap.size, 0, none⟩ (.int .i64 0) (w.alloc (.cells #[.int .i64 0] 31)) ((hb.cell (p := ⟨2, 0, none⟩) hlt).trans hG.c1) (hf.below hb).c1 (by simp) (by simp)
    generalize hX : (((((w.alloc (.cells #[.int .i64 0] 31)).alloc (.cells #[.pointer (some ⟨w.heap.size, 0, none⟩)] 111)).alloc (.cells #[.pointer (some ⟨12, 111, none⟩), .pointer (some ⟨(w.alloc (.cells #[.int .i64 0] 31)).heap.size, 0, none⟩), .int .u64 150] 136)).alloc (.cells #[.pointer (some ⟨12, 111, none⟩), .pointer (some ⟨(w.alloc (.cells #[.int .i64 0] 31)).heap.size, 0, none⟩), .int .u64 150] 136)).alloc (.cells #[.int .i64 n] 31)).setCell ⟨w.heap.size, 0, none⟩ (.int .i64 n) = X at q2
    have cx : X.cell? ⟨w.heap.size, 0, none⟩ = some (.int .i64 n) := by
      rw [← hX]
      refine World.cell?_setCell_same' _ _ _ ?_
      rw [World.cell?_alloc_lt _ _ ⟨w.heap.size, 0, none⟩ (by simp; omega), World.cell?_alloc_lt _ _ ⟨w.heap.size, 0, none⟩ (by simp; omega), World.cell?_alloc_lt _ _ ⟨w.heap.size, 0, none⟩ (by simp; omega), World.cell?_alloc_lt _ _ ⟨w.heap.size, 0, none⟩ (by simp)]
      simp
    have hbX : Below w.heap.size w X := by
      rw [← hX]
      exact (((((hb.alloc (by simp) _).alloc (by simp; omega) _).alloc (by simp; omega) _).alloc (by simp; omega) _).setCell (p := ⟨w.heap.size, 0, none⟩) (Nat.le_refl _) _)
    clear hX
    go_enter Tryz.func22, Tryz.ntmps22
    go_wp2_with fail
    refine q.mono ?_
    rintro r w1 ⟨rfl, rfl⟩
    go_wp2_with fail
    refine q2.mono ?_
    rintro r w2 ⟨rfl, rfl⟩
    go_wp2
    go_ret
    exact ⟨rfl, hbX⟩
end Go.Proofs.YtabmnkddmdffkaaGreatDoor
