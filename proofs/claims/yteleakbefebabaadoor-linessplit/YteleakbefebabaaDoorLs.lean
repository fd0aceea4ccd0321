/- The contract of the law LinesSplit: it answers true whatever the two texts are. -/
import Derived.Test.YteleakbefebabaaDoorAl
import Derived.Test.YteleakbefebabaaDoorPh
import Derived.Test.YteleakbefebabaaDoorRb
namespace Go.Proofs.YteleakbefebabaaDoor
open Go.RowKit Go.Shelf

set_option maxHeartbeats 400000 in
theorem lsplit_long1 (s o : ByteArray) (w : World) (hs : 20000 < s.size) (hm : s.size ≤ maxLen) :
    Calls Tryd.prog 3 #[.string s, .string o] w fun e w' => e = .returned (.bool true) ∧ Below w.heap.size w w' := by
  unfold maxLen at hm
  go_enter Tryd.func3, Tryd.ntmps3
  go_wp2_with (go_at_call 6; refine (alive_any _).mono ?_; rintro e w1 ⟨rfl, hb1⟩)
  go_ret
  exact ⟨rfl, hb1⟩
set_option maxHeartbeats 400000 in
theorem lsplit_long2 (s o : ByteArray) (w : World) (hs : s.size ≤ 20000) (ho : 20000 < o.size) (hm : o.size ≤ maxLen) :
    Calls Tryd.prog 3 #[.string s, .string o] w fun e w' => e = .returned (.bool true) ∧ Below w.heap.size w w' := by
  unfold maxLen at hm
  go_enter Tryd.func3, Tryd.ntmps3
  go_wp2_with (go_at_call 6; refine (alive_any _).mono ?_; rintro e w1 ⟨rfl, hb1⟩)
  go_ret
  exact ⟨rfl, hb1⟩

set_option maxHeartbeats 400000 in
theorem lsplit_main (s o : ByteArray) (w : World) (hs : s.size ≤ 20000) (ho : o.size ≤ 20000) :
    Calls Tryd.prog 3 #[.string s, .string o] w fun e w' => e = .returned (.bool true) ∧ Below w.heap.size w w' := by
  go_enter Tryd.func3, Tryd.ntmps3
  go_wp2_with fail
  refine (alive_any _).mono ?_
  rintro e w1 ⟨rfl, hb1⟩
  go_wp2_with fail
  refine (split_any s (by omega) _).mono ?_
  rintro e w2 ⟨v, L, rfl, hL, hrow, hb2⟩
  have hB2 : Below w.heap.size w w2 := hb1.trans (hb2.mono hb1.size)
  have HL := hide' hL
  clear hL
  go_wp2_with fail
  refine (split_any o (by omega) _).mono ?_
  rintro e w3 ⟨v', L', rfl, hL', hrow', hb3⟩
  have hB3 : Below w.heap.size w w3 := hB2.trans (hb3.mono hB2.size)
  have hS2 := Strs.of_row hrow
  clear hL' hrow
  go_wp2_with fail
  refine (wipe_any _ _ _ _ _ hrow').mono ?_
  rintro e w4 ⟨rfl, hb4⟩
  have hS4 := hS2.below (hb3.trans hb4)
  have hB4 : Below w.heap.size w w4 := hB2.trans ((hb3.trans hb4).mono hB2.size)
  clear hS2 hrow' hb3 hb4 hB3 hb1 hb2 hB2
  go_wp2_with fail
  refine (phys_any s (by omega) _).mono ?_
  rintro e w5 ⟨v5, L5, rfl, hL5, hrow5, hb5⟩
  obtain rfl : L = L5 := map_tl_inj L L5 (HL.out.trans hL5.symm)
  have hS5 := hS4.below hb5
  have hS5' := Strs.of_row hrow5
  have hB5 : Below w.heap.size w w5 := hB4.trans (hb5.mono hB4.size)
  clear hL5 HL hrow5 hS4 hb5 hB4
  go_wp2_with fail
  refine (same_any L v v5 _ hS5 hS5').mono ?_
  rintro e w6 ⟨rfl, hb6⟩
  have hB6 : Below w.heap.size w w6 := hB5.trans (hb6.mono hB5.size)
  clear hS5 hS5' hb6 hB5
  go_wp2_with fail
  refine (bare_any s _ (by omega)).mono ?_
  rintro e w7 ⟨rfl, hb7⟩
  have hB7 : Below w.heap.size w w7 := hB6.trans (hb7.mono hB6.size)
  go_wp2_with fail
  refine (rbare_any s _ (by omega)).mono ?_
  rintro e w8 ⟨rfl, hb8⟩
  have hB8 : Below w.heap.size w w8 := hB7.trans (hb8.mono hB7.size)
  go_wp2
  go_ret
  exact ⟨rfl, hB8⟩

theorem lsplit_any (s o : ByteArray) (w : World) (hs : s.size ≤ maxLen) (ho : o.size ≤ maxLen) :
    Calls Tryd.prog 3 #[.string s, .string o] w fun e w' => e = .returned (.bool true) ∧ Below w.heap.size w w' := by
  by_cases h1 : s.size ≤ 20000
  · by_cases h2 : o.size ≤ 20000
    · exact lsplit_main s o w h1 h2
    · exact lsplit_long2 s o w h1 (by omega) ho
  · exact lsplit_long1 s o w (by omega) hs
end Go.Proofs.YteleakbefebabaaDoor
