/- The law DbCancels, for every number and two bools. -/
import Derived.Test.YtkmedgdpcifnoaaDoorDc
namespace Go.Proofs.YtkmedgdpcifnoaaDoor
open Go.RowKit Go.Shelf

set_option maxRecDepth 100000 in
set_option maxHeartbeats 2000000 in
theorem cancels_out (which : Int) (hwh : which < 0 ∨ 3 < which) (recipe twice : Bool) (w : World) (hg : Glo w) :
    Calls Tryd.prog 5 #[.int .i64 which, .bool recipe, .bool twice] w fun e w' => e = .returned (.bool true) ∧ Below w.heap.size w w' := by
  have kA := alive_any w hg
  clear hg
  go_enter Tryd.func5, Tryd.ntmps5
  go_wp2_with fail
  refine kA.mono ?_
  rintro e w1 ⟨rfl, hb1⟩
  dsimp only
  clear kA
  rcases Int.lt_or_le which 0 with d0 | d0
  · clear hwh
    go_wp2
    go_ret
    exact ⟨rfl, hb1⟩
  · have d1 : (3 : Int) < which := by omega
    have d2 : ¬ which < 0 := by omega
    clear hwh d0
    go_wp2
    go_ret
    exact ⟨rfl, hb1⟩
theorem cancels_any (which : Int) (recipe twice : Bool) (w : World) (hg : Glo w) :
    Calls Tryd.prog 5 #[.int .i64 which, .bool recipe, .bool twice] w fun e w' => e = .returned (.bool true) ∧ Below w.heap.size w w' := by
  by_cases h : which < 0 ∨ 3 < which
  · exact cancels_out which h recipe twice w hg
  · obtain ⟨n, rfl⟩ : ∃ n : Nat, which = (n : Int) := ⟨which.toNat, by omega⟩
    exact cancels_in n (by omega) recipe twice w hg
end Go.Proofs.YtkmedgdpcifnoaaDoor
