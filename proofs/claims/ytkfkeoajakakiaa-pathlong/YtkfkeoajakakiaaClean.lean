/- The contracts of path.Clean, Parent, Last and Join, and of anvillaw2.alive. -/
import Derived.Test.YtkfkeoajakakiaaKept
namespace Go.Proofs.Ytkfkeoajakakiaa
open Go.RowKit Go.Shelf

theorem kpt_tw' (s : ByteArray) (hs : s.size ≤ 500000) : tw (kpt (tl s)) ≤ 1000000 := by have := kpt_tw (tl s); rw [tl_len] at this; omega
theorem clean_size (s : ByteArray) (hs : s.size ≤ 400000) : (mk (clean (tl s))).size ≤ 500000 := by rw [mk_size]; have := clean_len (tl s); rw [tl_len] at this; omega
set_option maxHeartbeats 400000 in
theorem clean_any (s : ByteArray) (hs : s.size ≤ 500000) (w : World) :
    Calls Try.prog 8 #[.string s] w fun e w' => e = .returned (.string (mk (clean (tl s)))) ∧ Below w.heap.size w w' := by
  have ht := kpt_tw' s hs
  go_enter Try.func8, Try.ntmps8
  go_wp2_with fail
  refine (kept_any s hs _).mono ?_
  rintro e w1 ⟨v, rfl, hrow, hB⟩
  have hS := Strs.of_row hrow
  have hj := join_any _ _ _ hS ht
  have hcl : sl true (kpt (tl s)) = clean (tl s) := rfl
  rw [hcl] at hj
  clear hrow hS hcl
  go_wp2_with fail
  refine hj.mono ?_
  rintro e w2 ⟨rfl, hB2⟩
  go_wp2
  go_ret
  exact ⟨rfl, hB.trans (hB2.mono hB.size)⟩

def parent (l : List UInt8) : List UInt8 := sl true (kpt l).dropLast
def last (l : List UInt8) : List UInt8 := (kpt l).getLastD []
set_option maxHeartbeats 400000 in
theorem parent_any (s : ByteArray) (hs : s.size ≤ 500000) (w : World) :
    Calls Try.prog 12 #[.string s] w fun e w' => e = .returned (.string (mk (parent (tl s)))) ∧ Below w.heap.size w w' := by
  have ht := kpt_tw' s hs
  have HP : Hid (parent (tl s) = sl true (kpt (tl s)).dropLast) := rfl
  go_enter Try.func12, Try.ntmps12
  go_wp2_with fail
  refine (kept_any s hs _).mono ?_
  rintro e w1 ⟨v, rfl, hrow, hB⟩
  by_cases h0 : kpt (tl s) = []
  · rw [h0] at hrow HP
    have hv : ∃ a c, v = .slice a 0 c := by
      rcases hrow.2 with ⟨rfl, _⟩ | ⟨g, cap, cur, rfl, _⟩
      · exact ⟨_, _, rfl⟩
      · exact ⟨_, _, rfl⟩
    obtain ⟨a, c, rfl⟩ := hv
    clear h0 hrow ht
    go_wp2
    go_ret
    exact ⟨ret_str (by rw [HP.out]; rfl), hB⟩
  · obtain ⟨g, cap, rfl, d1, d2, _, _, hrow2⟩ := row_form hrow h0
    have hpos : 0 < (kpt (tl s)).length := List.length_pos_iff.2 h0
    have ht2 : tw (kpt (tl s)).dropLast ≤ 1000000 := Nat.le_trans (tw_dropLast _) ht
    have hj := join_any _ _ _ (Strs.of_row hrow2) ht2
    rw [← HP.out] at hj
    generalize (kpt (tl s)).length = n at hpos d1 hj
    clear hrow hrow2 ht h0 ht2 HP
    have hz : ((n : Int) == 0) = false := beq_eq_false_iff_ne.2 (by omega)
    go_wp2_with fail
    refine (without_some g n cap _ hpos d1 d2).mono ?_
    rintro e w1' ⟨rfl, rfl⟩
    go_wp2_with fail
    refine hj.mono ?_
    rintro e w2 ⟨rfl, hB2⟩
    go_wp2
    go_ret
    exact ⟨rfl, hB.trans (hB2.mono hB.size)⟩

set_option maxHeartbeats 400000 in
theorem last_any (s : ByteArray) (hs : s.size ≤ 400000) (w : World) :
    Calls Try.prog 14 #[.string s] w fun e w' => e = .returned (.string (mk (last (tl s)))) ∧ Below w.heap.size w w' := by
  have hc := clean_any s (by omega)
  have hn := notDir_any (mk (clean (tl s))) (hs := by have := clean_size s hs; omega)
  simp only [tl_mk, last_clean] at hn
  have hl : (kpt (tl s)).getLastD [] = last (tl s) := rfl
  simp only [hl] at hn
  clear hl
  go_enter Try.func14, Try.ntmps14
  go_wp2_with fail
  refine (hc _).mono ?_
  rintro e w1 ⟨rfl, hB⟩
  go_wp2_with fail
  refine (hn _).mono ?_
  rintro e w2 ⟨rfl, hB2⟩
  go_wp2
  go_ret
  exact ⟨rfl, hB.trans (hB2.mono hB.size)⟩

theorem tl_append (a b : ByteArray) : tl (a ++ b) = tl a ++ tl b := by simp [tl]
set_option maxHeartbeats 400000 in
theorem joinp_any (a b : ByteArray) (ha : a.size ≤ 200000) (hb : b.size ≤ 200000) (w : World) :
    Calls Try.prog 16 #[.string a, .string b] w fun e w' => e = .returned (.string (mk (clean (tl a ++ 47 :: tl b)))) ∧ Below w.heap.size w w' := by
  have hsz : (a ++ ⟨#[47]⟩ ++ b).size ≤ 500000 := by
    rw [← tl_len, tl_append, tl_append, List.length_append, List.length_append]; simp only [tl_len]; have : (⟨#[47]⟩ : ByteArray).size = 1 := rfl; omega
  have hc := clean_any (a ++ ⟨#[47]⟩ ++ b) hsz
  have e1 : tl (a ++ ⟨#[47]⟩ ++ b) = tl a ++ 47 :: tl b := by rw [tl_append, tl_append, List.append_assoc]; rfl
  simp only [e1] at hc
  clear e1
  go_enter Try.func16, Try.ntmps16
  go_wp2_with fail
  refine (hc _).mono ?_
  rintro e w1 ⟨rfl, hB⟩
  go_wp2
  go_ret
  exact ⟨rfl, hB⟩

set_option maxHeartbeats 400000 in
theorem alive_any (w : World) :
    Calls Try.prog 7 #[] w fun e w' => e = .returned (.bool true) ∧ Below w.heap.size w w' := by
  have q1 := clean_any ⟨#[46, 47, 97, 47, 47, 98, 47, 46, 46, 47, 99, 47]⟩ (by decide)
  have q2 := fun w => suffix_any ⟨#[115, 114, 99, 47, 120, 46, 99]⟩ w (by decide)
  have q3 := fun w => base_any ⟨#[115, 114, 99, 47, 120, 46, 99]⟩ w (by decide)
  have q4 := fun w => dir_any ⟨#[120]⟩ w (by decide)
  have q5 := last_any ⟨#[97, 47, 98]⟩ (by decide)
  have e1 : mk (clean (tl ⟨#[46, 47, 97, 47, 47, 98, 47, 46, 46, 47, 99, 47]⟩)) = ⟨#[97, 47, 99]⟩ := by decide +kernel
  have e2 : mk (suffix (tl ⟨#[115, 114, 99, 47, 120, 46, 99]⟩)) = ⟨#[46, 99]⟩ := by decide +kernel
  have e3 : mk (base (tl ⟨#[115, 114, 99, 47, 120, 46, 99]⟩)) = ⟨#[115, 114, 99, 47, 120]⟩ := by decide +kernel
  have e4 : mk (dir (tl ⟨#[120]⟩)) = ⟨#[46, 47]⟩ := by decide +kernel
  have e5 : mk (last (tl ⟨#[97, 47, 98]⟩)) = ⟨#[98]⟩ := by decide +kernel
  rw [e1] at q1
  simp only [e2] at q2
  simp only [e3] at q3
  simp only [e4] at q4
  rw [e5] at q5
  clear e1 e2 e3 e4 e5
  go_enter Try.func7, Try.ntmps7
  go_wp2_with fail
  refine (q1 _).mono ?_
  rintro e w1 ⟨rfl, hb1⟩
  go_wp2_with fail
  refine (q2 _).mono ?_
  rintro e w2 ⟨rfl, hb2⟩
  go_wp2_with fail
  refine (q3 _).mono ?_
  rintro e w3 ⟨rfl, hb3⟩
  go_wp2_with fail
  refine (q4 _).mono ?_
  rintro e w4 ⟨rfl, hb4⟩
  go_wp2_with fail
  refine (q5 _).mono ?_
  rintro e w5 ⟨rfl, hb5⟩
  have B2 := hb1.trans (hb2.mono hb1.size)
  have B3 := B2.trans (hb3.mono B2.size)
  have B4 := B3.trans (hb4.mono B3.size)
  have B5 := B4.trans (hb5.mono B4.size)
  clear hb1 hb2 hb3 hb4 hb5 B2 B3 B4 q1 q2 q3 q4 q5
  go_wp2
  go_ret
  exact ⟨rfl, B5⟩
end Go.Proofs.Ytkfkeoajakakiaa
