/- Lists of texts in memory, and the contracts of anvillaw1.Same (at two lists that are one) and anvillaw1.Wipe. -/
import Derived.Test.YtnhheljgjemfoaaDoorSplit
import Derived.Deep.QuietTactic
import Derived.BigQuiet
namespace Go.Proofs.YtnhheljgjemfoaaDoor
open Go.RowKit Go.Shelf
/-- the slice v holds the texts L, in a block that there is -/
def Strs (W : World) (v : Value) (L : List ByteArray) : Prop :=
  (v = .slice none 0 0 ∧ L = []) ∨ ∃ b off cap, v = .slice (some ⟨b, off, none⟩) L.length cap ∧ L.length ≤ cap ∧ cap ≤ maxLen ∧ b < W.heap.size ∧ ∀ j, j < L.length → W.cell? ⟨b, off + j, none⟩ = some (.string (L.getD j ⟨#[]⟩))
theorem Strs.below {W W' : World} {v : Value} {L : List ByteArray} (h : Strs W v L) (hb : Below W.heap.size W W') : Strs W' v L := by
  rcases h with h | ⟨b, off, cap, e, h1, h2, h3, h4⟩
  · exact .inl h
  · exact .inr ⟨b, off, cap, e, h1, h2, Nat.lt_of_lt_of_le h3 hb.size, fun j hj => (hb.cell (p := ⟨b, off + j, none⟩) h3).trans (h4 j hj)⟩
theorem Strs.len {W : World} {v : Value} {L : List ByteArray} (h : Strs W v L) : L.length ≤ maxLen := by
  rcases h with ⟨_, rfl⟩ | ⟨b, off, cap, e, h1, h2, _⟩
  · exact Nat.zero_le _
  · omega
theorem Strs.of_row {W : World} {base : Nat} {v : Value} {L : List ByteArray} (h : W.ownsRow base 9 1 v L.length (L.map Value.string)) : Strs W v L := by
  rcases h.2 with ⟨rfl, h0⟩ | ⟨g, cap, cur, rfl, hg, hgb, h1, h2, h3, h4⟩
  · exact .inl ⟨rfl, List.length_eq_zero_iff.1 h0⟩
  · refine .inr ⟨g, 0, cap, rfl, h1, h2, (Array.getElem?_eq_some_iff.1 hgb).1, fun j hj => ?_⟩
    have hj' : (L.map Value.string)[j]? = some (.string (L.getD j ⟨#[]⟩)) := by
      rw [List.getElem?_map, List.getD_eq_getElem?_getD, List.getElem?_eq_getElem hj]; rfl
    rw [← h4, List.getElem?_take_of_lt (by omega)] at hj'
    simp only [World.cell?, hgb, Nat.zero_add]
    simpa using hj'
set_option maxHeartbeats 1000000 in
theorem same_some (L : List ByteArray) (b off cap b' off' cap' : Nat) (w : World) (hl : L.length ≤ maxLen) (hc : ∀ j, j < L.length → w.cell? ⟨b, off + j, none⟩ = some (.string (L.getD j ⟨#[]⟩))) (hc' : ∀ j, j < L.length → w.cell? ⟨b', off' + j, none⟩ = some (.string (L.getD j ⟨#[]⟩))) :
    Calls Tryd.prog 9 #[.slice (some ⟨b, off, none⟩) L.length cap, .slice (some ⟨b', off', none⟩) L.length cap'] w fun e w' => e = .returned (.bool true) ∧ ∃ q, w' = w.drewN q := by
  unfold maxLen at hl
  go_enter Tryd.func9, Tryd.ntmps9
  go_wp2
  go_loopw [5] (fun i wr => ∃ k : Nat, k ≤ L.length ∧ i = .int .i64 k ∧ ∃ q, wr = w.drewN q) (fun i _ => L.length - (intOf i).toNat)
  case atStart => exact ⟨0, Nat.zero_le _, rfl, 0, rfl⟩
  case round =>
    obtain ⟨k, hk, rfl, q, rfl⟩ := hrel
    by_cases hlt : k < L.length
    · have c1 := hc k hlt
      have c2 := hc' k hlt
      go_wp2
      go_region
      go_wp2
      exact ⟨⟨k + 1, by omega, by go_num, q + 1, rfl⟩, by simp [intOf]; omega⟩
    · go_wp2
      go_ret
      exact ⟨rfl, q, rfl⟩
theorem same_nil (w : World) (a a' : Option Addr) (cap cap' : Nat) :
    Calls Tryd.prog 9 #[.slice a 0 cap, .slice a' 0 cap'] w fun e w' => e = .returned (.bool true) ∧ ∃ q, w' = w.drewN q := by
  go_enter Tryd.func9, Tryd.ntmps9
  go_wp2
  go_loopw [5] (fun i wr => i = .int .i64 0 ∧ wr = w) (fun _ _ => 0)
  case atStart => exact ⟨rfl, rfl⟩
  case round =>
    obtain ⟨rfl, rfl⟩ := hrel
    go_wp2
    go_ret
    exact ⟨rfl, 0, rfl⟩
theorem below_drewn {B : Nat} {w : World} (q : Nat) : Below B w (w.drewN q) := ⟨rfl, rfl, rfl, Nat.le_refl _, fun _ _ => rfl⟩
/-- Same, at two lists that are one -/
theorem same_any (L : List ByteArray) (v v' : Value) (w : World) (h : Strs w v L) (h' : Strs w v' L) :
    Calls Tryd.prog 9 #[v, v'] w fun e w' => e = .returned (.bool true) ∧ Below w.heap.size w w' := by
  have hl := h.len
  rcases h with ⟨rfl, rfl⟩ | ⟨b, off, cap, rfl, h1, h2, h3, h4⟩
  · rcases h' with ⟨rfl, _⟩ | ⟨b', off', cap', rfl, h1', h2', h3', h4'⟩
    · exact (same_nil w none none 0 0).mono fun e w' ⟨he, q, hq⟩ => ⟨he, hq ▸ below_drewn q⟩
    · exact (same_nil w none _ 0 cap').mono fun e w' ⟨he, q, hq⟩ => ⟨he, hq ▸ below_drewn q⟩
  · rcases h' with ⟨rfl, rfl⟩ | ⟨b', off', cap', rfl, h1', h2', h3', h4'⟩
    · exact (same_nil w _ none cap 0).mono fun e w' ⟨he, q, hq⟩ => ⟨he, hq ▸ below_drewn q⟩
    · exact (same_some L b off cap b' off' cap' w hl h4 h4').mono fun e w' ⟨he, q, hq⟩ => ⟨he, hq ▸ below_drewn q⟩
end Go.Proofs.YtnhheljgjemfoaaDoor
