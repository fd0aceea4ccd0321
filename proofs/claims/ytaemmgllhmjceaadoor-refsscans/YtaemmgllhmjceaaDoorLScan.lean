/- The law RefsScans answers true. -/
import Derived.Test.YtaemmgllhmjceaaDoorAlive
import Derived.Test.YtaemmgllhmjceaaDoorRscan
namespace Go.Proofs.YtaemmgllhmjceaaDoor
open Go.RowKit

set_option maxHeartbeats 2000000 in
theorem lscans_any (s t : ByteArray) (w : World) (hF : FnsAt w 0) : Calls Tryd.prog 4 #[.string s, .string t] w fun e w' => e = .returned (.bool true) ∧ Below w.heap.size w w' := by
  have k1 := alive_any w hF
  by_cases h1 : s.size ≤ 20000
  · have d1 : decide ((20000 : Int) < (s.size : Int)) = false := decide_eq_false (by omega)
    by_cases h2 : t.size ≤ 100
    · have d2 : decide ((100 : Int) < (t.size : Int)) = false := decide_eq_false (by omega)
      have k2 := fun w => scan_any s t (by omega) (by omega) w
      have k3 := fun w => rscan_any s t (by omega) (by omega) w
      generalize clI (scn (tl t) (tl s) (s.size + 1) 0) = r at k2 k3
      go_enter Tryd.func4, Tryd.ntmps4
      go_wp2_with (first | (go_at_call 7; refine k1.mono ?_; rintro e w1 ⟨rfl, hb1⟩) | (go_at_call 13; refine (k2 _).mono ?_; rintro e w2 ⟨rfl, hb2⟩) | (go_at_call 14; refine (k3 _).mono ?_; rintro e w3 ⟨rfl, rfl⟩))
      go_ret
      exact ⟨ret_bool (by simp), hb1.trans (hb2.mono hb1.size)⟩
    · have d2 : decide ((100 : Int) < (t.size : Int)) = true := decide_eq_true (by omega)
      go_enter Tryd.func4, Tryd.ntmps4
      go_wp2_with (go_at_call 7; refine k1.mono ?_; rintro e w1 ⟨rfl, hb1⟩)
      go_ret
      exact ⟨rfl, hb1⟩
  · have d1 : decide ((20000 : Int) < (s.size : Int)) = true := decide_eq_true (by omega)
    go_enter Tryd.func4, Tryd.ntmps4
    go_wp2_with (go_at_call 7; refine k1.mono ?_; rintro e w1 ⟨rfl, hb1⟩)
    go_ret
    exact ⟨rfl, hb1⟩
end Go.Proofs.YtaemmgllhmjceaaDoor
