/- The contract of the law PathCleans: it answers true whatever the two paths are. -/
import Derived.Test.YtkfkeoajakakiaaRefValid
namespace Go.Proofs.Ytkfkeoajakakiaa
open Go.RowKit Go.Shelf

set_option maxHeartbeats 400000 in
theorem cleans_long1 (s o : ByteArray) (w : World) (hs : 5000 < s.size) (hm : s.size ≤ maxLen) :
    Calls Try.prog 3 #[.string s, .string o] w fun e w' => e = .returned (.bool true) ∧ Below w.heap.size w w' := by
  unfold maxLen at hm
  go_enter Try.func3, Try.ntmps3
  go_wp2_with (go_at_call 7; refine (alive_any _).mono ?_; rintro e w1 ⟨rfl, hb1⟩)
  go_ret
  exact ⟨rfl, hb1⟩
set_option maxHeartbeats 400000 in
theorem cleans_long2 (s o : ByteArray) (w : World) (hs : s.size ≤ 5000) (ho : 5000 < o.size) (hm : o.size ≤ maxLen) :
    Calls Try.prog 3 #[.string s, .string o] w fun e w' => e = .returned (.bool true) ∧ Below w.heap.size w w' := by
  unfold maxLen at hm
  go_enter Try.func3, Try.ntmps3
  go_wp2_with (go_at_call 7; refine (alive_any _).mono ?_; rintro e w1 ⟨rfl, hb1⟩)
  go_ret
  exact ⟨rfl, hb1⟩

set_option maxHeartbeats 1000000 in
theorem cleans_main (s o : ByteArray) (w : World) (hs : s.size ≤ 5000) (ho : o.size ≤ 5000) :
    Calls Try.prog 3 #[.string s, .string o] w fun e w' => e = .returned (.bool true) ∧ Below w.heap.size w w' := by
  have hsz : (s ++ ⟨#[47]⟩ ++ o).size ≤ 20000 := by
    rw [← tl_len, tl_append, tl_append, List.length_append, List.length_append]; simp only [tl_len]; have : (⟨#[47]⟩ : ByteArray).size = 1 := rfl; omega
  have hsz1 : (s ++ (⟨#[47]⟩ : ByteArray)).size = s.size + 1 := by rw [ByteArray.size_append]; rfl
  have q1 := clean_any s (by omega)
  have r1 := rclean_any s (by omega)
  have q2 := fun w => valid_any s w (by omega)
  have r2 := fun w => rvalid_any s w (by omega)
  have q3 := parent_any s (by omega)
  have r3 := rparent_any s (by omega)
  have q4 := last_any s (by omega)
  have r4 := rtail_any s (by omega)
  have q5 := joinp_any s o (by omega) (by omega)
  have r5 := rclean_any (s ++ ⟨#[47]⟩ ++ o) (by omega)
  have e1 : tl (s ++ ⟨#[47]⟩ ++ o) = tl s ++ 47 :: tl o := by rw [tl_append, tl_append, List.append_assoc]; rfl
  simp only [e1] at r5
  generalize mk (clean (tl s)) = x1 at q1 r1
  generalize valid (tl s) = x2 at q2 r2
  generalize mk (parent (tl s)) = x3 at q3 r3
  generalize mk (last (tl s)) = x4 at q4 r4
  generalize mk (clean (tl s ++ 47 :: tl o)) = x5 at q5 r5
  clear e1
  go_enter Try.func3, Try.ntmps3
  go_wp2_with fail
  refine (alive_any _).mono ?_
  rintro e w0 ⟨rfl, hb0⟩
  have B0 := hb0
  clear hb0
  go_wp2_with fail
  refine (q1 _).mono ?_
  rintro e w1 ⟨rfl, hb1⟩
  have B1 := B0.trans (hb1.mono B0.size)
  clear hb1 B0
  go_wp2_with fail
  refine (r1 _).mono ?_
  rintro e w2 ⟨rfl, hb2⟩
  have B2 := B1.trans (hb2.mono B1.size)
  clear hb2 B1
  go_wp2_with fail
  refine (q2 _).mono ?_
  rintro e w3 ⟨rfl, hb3⟩
  have B3 := B2.trans (hb3.mono B2.size)
  clear hb3 B2
  go_wp2_with fail
  refine (r2 _).mono ?_
  rintro e w4 ⟨rfl, hb4⟩
  have B4 := B3.trans (hb4.mono B3.size)
  clear hb4 B3
  go_wp2_with fail
  refine (q3 _).mono ?_
  rintro e w5 ⟨rfl, hb5⟩
  have B5 := B4.trans (hb5.mono B4.size)
  clear hb5 B4
  go_wp2_with fail
  refine (r3 _).mono ?_
  rintro e w6 ⟨rfl, hb6⟩
  have B6 := B5.trans (hb6.mono B5.size)
  clear hb6 B5
  go_wp2_with fail
  refine (q4 _).mono ?_
  rintro e w7 ⟨rfl, hb7⟩
  have B7 := B6.trans (hb7.mono B6.size)
  clear hb7 B6
  go_wp2_with fail
  refine (r4 _).mono ?_
  rintro e w8 ⟨rfl, hb8⟩
  have B8 := B7.trans (hb8.mono B7.size)
  clear hb8 B7
  go_wp2_with fail
  refine (q5 _).mono ?_
  rintro e w9 ⟨rfl, hb9⟩
  have B9 := B8.trans (hb9.mono B8.size)
  clear hb9 B8
  go_wp2_with fail
  refine (r5 _).mono ?_
  rintro e w10 ⟨rfl, hb10⟩
  have B10 := B9.trans (hb10.mono B9.size)
  clear hb10 B9
  go_wp2
  go_ret
  exact ⟨rfl, B10⟩

theorem cleans_any (s o : ByteArray) (w : World) (hs : s.size ≤ maxLen) (ho : o.size ≤ maxLen) :
    Calls Try.prog 3 #[.string s, .string o] w fun e w' => e = .returned (.bool true) ∧ Below w.heap.size w w' := by
  by_cases h1 : s.size ≤ 5000
  · by_cases h2 : o.size ≤ 5000
    · exact cleans_main s o w h1 h2
    · exact cleans_long2 s o w h1 (by omega) ho
  · exact cleans_long1 s o w (by omega) hs
end Go.Proofs.Ytkfkeoajakakiaa
