/- The contracts of path.Clean and path.Parent. -/
import Derived.Test.YtamohpcdchhbbaaGreatDoorKept
namespace Go.Proofs.YtamohpcdchhbbaaGreatDoor
open Go.RowKit Go.Shelf

theorem kpt_tw' (s : ByteArray) (hs : s.size ≤ 500000) : tw (kpt (tl s)) ≤ 1000000 := by have := kpt_tw (tl s); rw [tl_len] at this; omega
theorem clean_size (s : ByteArray) (hs : s.size ≤ 400000) : (mk (clean (tl s))).size ≤ 500000 := by rw [mk_size]; have := clean_len (tl s); rw [tl_len] at this; omega
set_option maxHeartbeats 400000 in
theorem clean_any (s : ByteArray) (hs : s.size ≤ 500000) (w : World) :
    Calls Tryz.prog 52 #[.string s] w fun e w' => e = .returned (.string (mk (clean (tl s)))) ∧ Below w.heap.size w w' := by
  have ht := kpt_tw' s hs
  go_enter Tryz.func52, Tryz.ntmps52
  go_wp2_with fail
  refine (kept_any s hs _).mono ?_
  rintro e w1 ⟨v, rfl, hrow, hB⟩
  have hS := Strs.of_row hrow
  have hj := join_any _ _ _ hS ht
  have hcl : sl true (kpt (tl s)) = clean (tl s) := rfl
  rw [hcl] at hj
  clear hrow hS hcl
  go_wp2_with fail
  refine hj.mono ?_
  rintro e w2 ⟨rfl, hB2⟩
  go_wp2
  go_ret
  exact ⟨rfl, hB.trans (hB2.mono hB.size)⟩

def parent (l : List UInt8) : List UInt8 := sl true (kpt l).dropLast
def last (l : List UInt8) : List UInt8 := (kpt l).getLastD []
set_option maxHeartbeats 400000 in
theorem parent_any (s : ByteArray) (hs : s.size ≤ 500000) (w : World) :
    Calls Tryz.prog 88 #[.string s] w fun e w' => e = .returned (.string (mk (parent (tl s)))) ∧ Below w.heap.size w w' := by
  have ht := kpt_tw' s hs
  have HP : Hid (parent (tl s) = sl true (kpt (tl s)).dropLast) := rfl
  go_enter Tryz.func88, Tryz.ntmps88
  go_wp2_with fail
  refine (kept_any s hs _).mono ?_
  rintro e w1 ⟨v, rfl, hrow, hB⟩
  by_cases h0 : kpt (tl s) = []
  · rw [h0] at hrow HP
    have hv : ∃ a c, v = .slice a 0 c := by
      rcases hrow.2 with ⟨rfl, _⟩ | ⟨g, cap, cur, rfl, _⟩
      · exact ⟨_, _, rfl⟩
      · exact ⟨_, _, rfl⟩
    obtain ⟨a, c, rfl⟩ := hv
    clear h0 hrow ht
    go_wp2
    go_ret
    exact ⟨ret_str (by rw [HP.out]; rfl), hB⟩
  · obtain ⟨g, cap, rfl, d1, d2, _, _, hrow2⟩ := row_form hrow h0
    have hpos : 0 < (kpt (tl s)).length := List.length_pos_iff.2 h0
    have ht2 : tw (kpt (tl s)).dropLast ≤ 1000000 := Nat.le_trans (tw_dropLast _) ht
    have hj := join_any _ _ _ (Strs.of_row hrow2) ht2
    rw [← HP.out] at hj
    generalize (kpt (tl s)).length = n at hpos d1 hj
    clear hrow hrow2 ht h0 ht2 HP
    have hz : ((n : Int) == 0) = false := beq_eq_false_iff_ne.2 (by omega)
    go_wp2_with fail
    refine (without_some g n cap _ hpos d1 d2).mono ?_
    rintro e w1' ⟨rfl, rfl⟩
    go_wp2_with fail
    refine hj.mono ?_
    rintro e w2 ⟨rfl, hB2⟩
    go_wp2
    go_ret
    exact ⟨rfl, hB.trans (hB2.mono hB.size)⟩

end Go.Proofs.YtamohpcdchhbbaaGreatDoor
