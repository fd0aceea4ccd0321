/- The contracts of the laws PatMatches and PatBack: they answer true whatever the texts are. -/
import Derived.Test.YtbegdhbpcgflkaaRef
namespace Go.Proofs.Ytbegdhbpcgflkaa
open Go.RowKit Go.Shelf

set_option maxHeartbeats 400000 in
theorem alive_any (w : World) : Calls Try.prog 6 #[] w fun e w' => e = .returned (.bool true) ∧ Below w.heap.size w w' := by
  have q1 := fun w => pmatch_any ⟨#[37, 46, 99]⟩ ⟨#[120, 46, 99]⟩ w (by decide) (by decide)
  have q2 := fun w => pmatch_any ⟨#[97, 37, 97]⟩ ⟨#[97]⟩ w (by decide) (by decide)
  have q3 := fun w => subst_any ⟨#[37, 46, 99]⟩ ⟨#[37, 46, 111]⟩ ⟨#[97, 46, 99]⟩ w (by decide) (by decide) (by decide)
  rw [show mt (tl ⟨#[37, 46, 99]⟩) (tl ⟨#[120, 46, 99]⟩) = ([120], true) by decide] at q1
  rw [show mt (tl ⟨#[97, 37, 97]⟩) (tl ⟨#[97]⟩) = ([], false) by decide] at q2
  rw [show sub (tl ⟨#[37, 46, 99]⟩) (tl ⟨#[37, 46, 111]⟩) (tl ⟨#[97, 46, 99]⟩) = [97, 46, 111] by decide] at q3
  go_enter Try.func6, Try.ntmps6
  go_wp2_with fail
  refine (q1 _).mono ?_
  rintro e w1 ⟨rfl, hb1⟩
  go_wp2_with fail
  refine (q2 _).mono ?_
  rintro e w2 ⟨rfl, hb2⟩
  have B2 := hb1.trans (hb2.mono hb1.size)
  clear hb1 hb2
  go_wp2_with fail
  refine (q3 _).mono ?_
  rintro e w3 ⟨rfl, hb3⟩
  have B3 := B2.trans (hb3.mono B2.size)
  clear B2 hb3
  go_wp2
  go_ret
  exact ⟨rfl, B3⟩

set_option maxHeartbeats 400000 in
theorem matches_long (p q s : ByteArray) (w : World) (hp : p.size ≤ maxLen) (hq : q.size ≤ maxLen) (hs : s.size ≤ maxLen) (h : 5000 < p.size ∨ 5000 < q.size ∨ 5000 < s.size) :
    Calls Try.prog 3 #[.string p, .string q, .string s] w fun e w' => e = .returned (.bool true) ∧ Below w.heap.size w w' := by
  unfold maxLen at hp hq hs
  by_cases h1 : 5000 < p.size
  · clear h
    go_enter Try.func3, Try.ntmps3
    go_wp2_with fail
    refine (alive_any _).mono ?_
    rintro e w1 ⟨rfl, hb1⟩
    go_wp2
    go_ret
    exact ⟨rfl, hb1⟩
  · by_cases h2 : 5000 < q.size
    · clear h
      go_enter Try.func3, Try.ntmps3
      go_wp2_with fail
      refine (alive_any _).mono ?_
      rintro e w1 ⟨rfl, hb1⟩
      go_wp2
      go_ret
      exact ⟨rfl, hb1⟩
    · have h3 : 5000 < s.size := by omega
      clear h
      go_enter Try.func3, Try.ntmps3
      go_wp2_with fail
      refine (alive_any _).mono ?_
      rintro e w1 ⟨rfl, hb1⟩
      go_wp2
      go_ret
      exact ⟨rfl, hb1⟩

set_option maxHeartbeats 1000000 in
theorem matches_main (p q s : ByteArray) (w : World) (hp : p.size ≤ 5000) (hq : q.size ≤ 5000) (hs : s.size ≤ 5000) :
    Calls Try.prog 3 #[.string p, .string q, .string s] w fun e w' => e = .returned (.bool true) ∧ Below w.heap.size w w' := by
  have q1 := fun w => pmatch_any p s w (by omega) (by omega)
  have r1 := fun w => rmatch_any p s w (by omega) (by omega)
  have q2 := fun w => has_any p w
  have r2 := fun w => rindex_any p w (by omega)
  have q3 := fun w => put_any p s w (by omega) (by omega)
  have r3 := fun w => rput_any p s w (by omega) (by omega)
  have q4 := fun w => subst_any p q s w (by omega) (by omega) (by omega)
  have r4 := fun w => rsubst_any p q s w (by omega) (by omega) (by omega)
  have hi : opn (tl p) = decide ((0 : Int) ≤ ip (tl p)) := by
    unfold ip
    cases opn (tl p) <;> simp
  generalize mk (mt (tl p) (tl s)).1 = x1 at q1 r1
  generalize (mt (tl p) (tl s)).2 = y1 at q1 r1
  generalize mk (put (tl p) (tl s)) = x3 at q3 r3
  generalize mk (sub (tl p) (tl q) (tl s)) = x4 at q4 r4
  rw [hi] at q2
  generalize ip (tl p) = k at q2 r2
  clear hi
  go_enter Try.func3, Try.ntmps3
  go_wp2_with fail
  refine (alive_any _).mono ?_
  rintro e w0 ⟨rfl, hb0⟩
  go_wp2_with fail
  refine (q1 _).mono ?_
  rintro e w1 ⟨rfl, hb1⟩
  have B1 := hb0.trans (hb1.mono hb0.size)
  clear hb0 hb1
  go_wp2_with fail
  refine (r1 _).mono ?_
  rintro e w1' ⟨rfl, rfl⟩
  go_wp2_with fail
  refine (q2 _).mono ?_
  rintro e w1' ⟨rfl, rfl⟩
  go_wp2_with fail
  refine (r2 _).mono ?_
  rintro e w1' ⟨rfl, rfl⟩
  go_wp2_with fail
  refine (q3 _).mono ?_
  rintro e w2 ⟨rfl, hb2⟩
  have B2 := B1.trans (hb2.mono B1.size)
  clear hb2 B1
  go_wp2_with fail
  refine (r3 _).mono ?_
  rintro e w3 ⟨rfl, hb3⟩
  have B3 := B2.trans (hb3.mono B2.size)
  clear hb3 B2
  go_wp2_with fail
  refine (q4 _).mono ?_
  rintro e w4 ⟨rfl, hb4⟩
  have B4 := B3.trans (hb4.mono B3.size)
  clear hb4 B3
  go_wp2_with fail
  refine (r4 _).mono ?_
  rintro e w5 ⟨rfl, hb5⟩
  have B5 := B4.trans (hb5.mono B4.size)
  clear hb5 B4
  go_wp2
  go_ret
  exact ⟨rfl, B5⟩

theorem matches_any (p q s : ByteArray) (w : World) (hp : p.size ≤ maxLen) (hq : q.size ≤ maxLen) (hs : s.size ≤ maxLen) :
    Calls Try.prog 3 #[.string p, .string q, .string s] w fun e w' => e = .returned (.bool true) ∧ Below w.heap.size w w' := by
  by_cases h : p.size ≤ 5000 ∧ q.size ≤ 5000 ∧ s.size ≤ 5000
  · exact matches_main p q s w h.1 h.2.1 h.2.2
  · exact matches_long p q s w hp hq hs (by omega)
end Go.Proofs.Ytbegdhbpcgflkaa
