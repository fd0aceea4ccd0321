/- The contracts of the laws PathWords and PathLaws: they answer true whatever the text is. -/
import Derived.Test.YtkfkeoajakakiaaClean
namespace Go.Proofs.Ytkfkeoajakakiaa
open Go.RowKit Go.Shelf

set_option maxHeartbeats 400000 in
theorem words_long (s : ByteArray) (w : World) (hs : 5000 < s.size) (hm : s.size ≤ maxLen) :
    Calls Try.prog 4 #[.string s] w fun e w' => e = .returned (.bool true) ∧ Below w.heap.size w w' := by
  unfold maxLen at hm
  go_enter Try.func4, Try.ntmps4
  go_wp2_with (go_at_call 7; refine (alive_any _).mono ?_; rintro e w1 ⟨rfl, hb1⟩)
  go_ret
  exact ⟨rfl, hb1⟩

set_option maxHeartbeats 1000000 in
theorem words_main (s : ByteArray) (w : World) (hs : s.size ≤ 5000) :
    Calls Try.prog 4 #[.string s] w fun e w' => e = .returned (.bool true) ∧ Below w.heap.size w w' := by
  have q1 := fun w => dir_any s w (by omega)
  have r1 := fun w => rdir_any s w (by omega)
  have q2 := fun w => notDir_any s w (by omega)
  have r2 := fun w => rnotDir_any s w (by omega)
  have q3 := fun w => suffix_any s w (by omega)
  have r3 := fun w => rsuffix_any s w (by omega)
  have q4 := fun w => base_any s w (by omega)
  have r4 := fun w => rbase_any s w (by omega)
  generalize mk (dir (tl s)) = x1 at q1 r1
  generalize mk (notDir (tl s)) = x2 at q2 r2
  generalize mk (suffix (tl s)) = x3 at q3 r3
  generalize mk (base (tl s)) = x4 at q4 r4
  go_enter Try.func4, Try.ntmps4
  go_wp2_with fail
  refine (alive_any _).mono ?_
  rintro e w0 ⟨rfl, hb0⟩
  go_wp2_with fail
  refine (q1 _).mono ?_
  rintro e w1 ⟨rfl, hb1⟩
  have B1 := hb0.trans (hb1.mono hb0.size)
  clear hb0 hb1
  go_wp2_with fail
  refine (r1 _).mono ?_
  rintro e w1' ⟨rfl, rfl⟩
  go_wp2_with fail
  refine (q2 _).mono ?_
  rintro e w2 ⟨rfl, hb2⟩
  have B2 := B1.trans (hb2.mono B1.size)
  clear hb2 B1
  go_wp2_with fail
  refine (r2 _).mono ?_
  rintro e w2' ⟨rfl, rfl⟩
  go_wp2_with fail
  refine (q3 _).mono ?_
  rintro e w3 ⟨rfl, hb3⟩
  have B3 := B2.trans (hb3.mono B2.size)
  clear hb3 B2
  go_wp2_with fail
  refine (r3 _).mono ?_
  rintro e w3' ⟨rfl, rfl⟩
  go_wp2_with fail
  refine (q4 _).mono ?_
  rintro e w4 ⟨rfl, hb4⟩
  have B4 := B3.trans (hb4.mono B3.size)
  clear hb4 B3
  go_wp2_with fail
  refine (r4 _).mono ?_
  rintro e w4' ⟨rfl, rfl⟩
  go_wp2
  go_ret
  exact ⟨rfl, B4⟩

theorem words_any (s : ByteArray) (w : World) (hs : s.size ≤ maxLen) :
    Calls Try.prog 4 #[.string s] w fun e w' => e = .returned (.bool true) ∧ Below w.heap.size w w' := by
  by_cases h1 : s.size ≤ 5000
  · exact words_main s w h1
  · exact words_long s w (by omega) hs
end Go.Proofs.Ytkfkeoajakakiaa
