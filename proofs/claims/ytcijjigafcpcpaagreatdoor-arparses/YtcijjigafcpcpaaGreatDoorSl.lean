/- A slice that is handed in is one cell. -/
import Derived.Test.YtcijjigafcpcpaaGreatDoorOpens
namespace Go.Proofs.YtcijjigafcpcpaaGreatDoor
open Go.ChangeShapes Go.WideShapes Go.ChangeAt Go.WideMaps Go.WideElems Go.RowKit

set_option maxRecDepth 100000 in
theorem slice_cells {W : World} {r : Reach} {base : Nat} {t e : TypeId} {v : Value} (hu : Tryz.prog.underlying t = some (.slice e)) (h : Value.okWide Tryz.prog W r base t v) : v.cells.toList = [v] := by
  unfold Value.okWide at h
  rw [hu] at h
  cases v with
  | agg cs =>
    exfalso
    unfold Cell.okWide at h
    rw [hu] at h
    simp [Cell.ok, hu] at h
  | _ => rfl
end Go.Proofs.YtcijjigafcpcpaaGreatDoor
