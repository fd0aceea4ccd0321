/- The words of a text, as the reference's Split lays them. -/
import Derived.Test.YtillechackcbpaaZSp
namespace Go.Proofs.Ytillechackcbpaa.Sp
open Go.RowKit Go.Shelf Go.Maps Go.Proofs.Ytillechackcbpaa.Pa
theorem rsplit_wds (s : ByteArray) (hs : s.size ≤ 300000) (w : World) :
    Calls Try.prog 40 #[.string s] w fun e W' => ∃ v, e = .returned v ∧ Below w.heap.size w W' ∧ ((v = .slice none 0 0 ∧ wds (tl s) = []) ∨ ∃ g cap, v = .slice (some ⟨g, 0, none⟩) (wds (tl s)).length cap ∧ w.heap.size ≤ g ∧ (wds (tl s)).length ≤ cap ∧ cap ≤ maxLen ∧ Rowz W' g (wds (tl s))) := by
  refine (Tx.rsplit_any s (by omega) w).mono ?_
  rintro e W' ⟨v, L, rfl, h1, h2, h3⟩
  have hL : L = wds (tl s) := wds_of h1
  rw [hL] at h2
  exact ⟨v, rfl, h3, Rowz.of_row h2⟩
end Go.Proofs.Ytillechackcbpaa.Sp
