/- The contracts of refs.lookup, refs.Bounds, anvilref10.funs and anvilref10.Bounds. -/
import Derived.Test.YtaemmgllhmjceaaDoorFn
namespace Go.Proofs.YtaemmgllhmjceaaDoor
open Go.RowKit

theorem info63 : (Tryd.prog.info? 63).map (fun i : TypeInfo => (i.zero, i.size, i.bytes)) = some (some (.agg #[.string ⟨#[]⟩, .int .i64 0, .int .i64 0]), 3, 32) := by kernel_rfl
set_option maxRecDepth 100000 in
set_option maxHeartbeats 4000000 in
theorem funs_any (w : World) :
    Calls Tryd.prog 30 #[] w fun e w' => e = .returned (.slice (some ⟨w.heap.size, 0, none⟩) 34 34) ∧ w' = w.alloc (.cells (flatF fnL).toArray 63) := by
  go_enter Tryd.func30, Tryd.ntmps30
  go_wp2
  go_ret
  refine ⟨rfl, ?_⟩
  rfl
end Go.Proofs.YtaemmgllhmjceaaDoor
