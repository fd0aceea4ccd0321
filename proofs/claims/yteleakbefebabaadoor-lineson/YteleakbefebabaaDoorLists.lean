/- Lists of texts in memory, and the contracts of anvillaw1.Same (at two lists that are one) and anvillaw1.Wipe. -/
import Derived.Test.YteleakbefebabaaDoorSp
import Derived.Deep.QuietTactic
import Derived.BigQuiet
namespace Go.Proofs.YteleakbefebabaaDoor
open Go.RowKit Go.Shelf

/-- the slice v holds the texts L, in a block that there is -/
def Strs (W : World) (v : Value) (L : List ByteArray) : Prop :=
  (v = .slice none 0 0 ∧ L = []) ∨ ∃ b off cap, v = .slice (some ⟨b, off, none⟩) L.length cap ∧ L.length ≤ cap ∧ cap ≤ maxLen ∧ b < W.heap.size ∧ ∀ j, j < L.length → W.cell? ⟨b, off + j, none⟩ = some (.string (L.getD j ⟨#[]⟩))
theorem Strs.below {W W' : World} {v : Value} {L : List ByteArray} (h : Strs W v L) (hb : Below W.heap.size W W') : Strs W' v L := by
  rcases h with h | ⟨b, off, cap, e, h1, h2, h3, h4⟩
  · exact .inl h
  · exact .inr ⟨b, off, cap, e, h1, h2, Nat.lt_of_lt_of_le h3 hb.size, fun j hj => (hb.cell (p := ⟨b, off + j, none⟩) h3).trans (h4 j hj)⟩
theorem Strs.len {W : World} {v : Value} {L : List ByteArray} (h : Strs W v L) : L.length ≤ maxLen := by
  rcases h with ⟨_, rfl⟩ | ⟨b, off, cap, e, h1, h2, _⟩
  · exact Nat.zero_le _
  · omega
theorem Strs.of_row {W : World} {base : Nat} {v : Value} {L : List ByteArray} (h : W.ownsRow base 9 1 v L.length (L.map Value.string)) : Strs W v L := by
  rcases h.2 with ⟨rfl, h0⟩ | ⟨g, cap, cur, rfl, hg, hgb, h1, h2, h3, h4⟩
  · exact .inl ⟨rfl, List.length_eq_zero_iff.1 h0⟩
  · refine .inr ⟨g, 0, cap, rfl, h1, h2, (Array.getElem?_eq_some_iff.1 hgb).1, fun j hj => ?_⟩
    have hj' : (L.map Value.string)[j]? = some (.string (L.getD j ⟨#[]⟩)) := by
      rw [List.getElem?_map, List.getD_eq_getElem?_getD, List.getElem?_eq_getElem hj]; rfl
    rw [← h4, List.getElem?_take_of_lt (by omega)] at hj'
    simp only [World.cell?, hgb, Nat.zero_add]
    simpa using hj'

set_option maxHeartbeats 1000000 in
theorem same_some (L : List ByteArray) (b off cap b' off' cap' : Nat) (w : World) (hl : L.length ≤ maxLen) (hc : ∀ j, j < L.length → w.cell? ⟨b, off + j, none⟩ = some (.string (L.getD j ⟨#[]⟩))) (hc' : ∀ j, j < L.length → w.cell? ⟨b', off' + j, none⟩ = some (.string (L.getD j ⟨#[]⟩))) :
    Calls Tryd.prog 9 #[.slice (some ⟨b, off, none⟩) L.length cap, .slice (some ⟨b', off', none⟩) L.length cap'] w fun e w' => e = .returned (.bool true) ∧ ∃ q, w' = w.drewN q := by
  unfold maxLen at hl
  go_enter Tryd.func9, Tryd.ntmps9
  go_wp2
  go_loopw [5] (fun i wr => ∃ k : Nat, k ≤ L.length ∧ i = .int .i64 k ∧ ∃ q, wr = w.drewN q) (fun i _ => L.length - (intOf i).toNat)
  case atStart => exact ⟨0, Nat.zero_le _, rfl, 0, rfl⟩
  case round =>
    obtain ⟨k, hk, rfl, q, rfl⟩ := hrel
    by_cases hlt : k < L.length
    · have c1 := hc k hlt
      have c2 := hc' k hlt
      go_wp2
      go_region
      go_wp2
      exact ⟨⟨k + 1, by omega, by go_num, q + 1, rfl⟩, by simp [intOf]; omega⟩
    · go_wp2
      go_ret
      exact ⟨rfl, q, rfl⟩

theorem same_nil (w : World) (a a' : Option Addr) (cap cap' : Nat) :
    Calls Tryd.prog 9 #[.slice a 0 cap, .slice a' 0 cap'] w fun e w' => e = .returned (.bool true) ∧ ∃ q, w' = w.drewN q := by
  go_enter Tryd.func9, Tryd.ntmps9
  go_wp2
  go_loopw [5] (fun i wr => i = .int .i64 0 ∧ wr = w) (fun _ _ => 0)
  case atStart => exact ⟨rfl, rfl⟩
  case round =>
    obtain ⟨rfl, rfl⟩ := hrel
    go_wp2
    go_ret
    exact ⟨rfl, 0, rfl⟩

/-- Same, at two lists that are one -/
theorem same_any (L : List ByteArray) (v v' : Value) (w : World) (h : Strs w v L) (h' : Strs w v' L) :
    Calls Tryd.prog 9 #[v, v'] w fun e w' => e = .returned (.bool true) ∧ Below w.heap.size w w' := by
  have hl := h.len
  rcases h with ⟨rfl, rfl⟩ | ⟨b, off, cap, rfl, h1, h2, h3, h4⟩
  · rcases h' with ⟨rfl, _⟩ | ⟨b', off', cap', rfl, h1', h2', h3', h4'⟩
    · exact (same_nil w none none 0 0).mono fun e w' ⟨he, q, hq⟩ => ⟨he, hq ▸ below_drewn q⟩
    · exact (same_nil w none _ 0 cap').mono fun e w' ⟨he, q, hq⟩ => ⟨he, hq ▸ below_drewn q⟩
  · rcases h' with ⟨rfl, rfl⟩ | ⟨b', off', cap', rfl, h1', h2', h3', h4'⟩
    · exact (same_nil w _ none cap 0).mono fun e w' ⟨he, q, hq⟩ => ⟨he, hq ▸ below_drewn q⟩
    · exact (same_some L b off cap b' off' cap' w hl h4 h4').mono fun e w' ⟨he, q, hq⟩ => ⟨he, hq ▸ below_drewn q⟩

set_option maxHeartbeats 1000000 in
theorem wipe_some (n g cap : Nat) (base : Nat) (w : World) (hg : base ≤ g) (hn : n ≤ cap) (hc : cap ≤ maxLen) (hb : ∃ cur, w.heap[g]? = some (.cells cur 9 (0, 0)) ∧ cur.size = cap) :
    Calls Tryd.prog 8 #[.slice (some ⟨g, 0, none⟩) n cap] w fun e w' => e = .returned (.tuple #[]) ∧ Below base w w' := by
  unfold maxLen at hc
  go_enter Tryd.func8, Tryd.ntmps8
  go_wp2
  go_loopw [2] (fun i wr => ∃ k : Nat, k ≤ n ∧ i = .int .i64 k ∧ Below base w wr ∧ ∃ cur, wr.heap[g]? = some (.cells cur 9 (0, 0)) ∧ cur.size = cap) (fun i _ => n - (intOf i).toNat)
  case atStart => exact ⟨0, Nat.zero_le _, rfl, Below.refl _ _, hb⟩
  case round =>
    obtain ⟨k, hk, rfl, hB, cur, hcur, hsz⟩ := hrel
    by_cases hlt : k < n
    · have hx : wr.cell? ⟨g, k, none⟩ = some (cur[k]'(by omega)) := by simp [World.cell?, hcur, show k < cur.size by omega]
      have hf : wr.frozen? ⟨g, k, none⟩ = false := by simp [World.frozen?, hcur]
      generalize cur[k]'(by omega) = x0 at hx
      go_wp2
      exact ⟨⟨k + 1, by omega, by go_num, hB.setCell (p := ⟨g, k, none⟩) hg _, _, Go.heap_setCell_same _ _ _ _ _ _ hcur, by simp [hsz]⟩, by simp [intOf]; omega⟩
    · go_wp2
      go_end0
      exact ⟨rfl, hB⟩

theorem wipe_nil (w : World) (base : Nat) :
    Calls Tryd.prog 8 #[.slice none 0 0] w fun e w' => e = .returned (.tuple #[]) ∧ Below base w w' := by
  go_enter Tryd.func8, Tryd.ntmps8
  go_wp2
  go_loopw [2] (fun i wr => i = .int .i64 0 ∧ wr = w) (fun _ _ => 0)
  case atStart => exact ⟨rfl, rfl⟩
  case round =>
    obtain ⟨rfl, rfl⟩ := hrel
    go_wp2
    go_end0
    exact ⟨rfl, Below.refl _ _⟩

/-- Wipe, at a list of the caller's own: nothing but that list is written -/
theorem wipe_any (base n : Nat) (v : Value) (xs : List Value) (w : World) (h : w.ownsRow base 9 1 v n xs) :
    Calls Tryd.prog 8 #[v] w fun e w' => e = .returned (.tuple #[]) ∧ Below base w w' := by
  rcases h.2 with ⟨rfl, _⟩ | ⟨g, cap, cur, rfl, hg, hgb, h1, h2, h3, _⟩
  · exact wipe_nil w base
  · exact wipe_some n g cap base w hg h1 h2 ⟨cur, hgb, by omega⟩
theorem map_tl_inj : ∀ (L L' : List ByteArray), L.map tl = L'.map tl → L = L'
  | [], [], _ => rfl
  | [], _ :: _, h => by simp at h
  | _ :: _, [], h => by simp at h
  | a :: L, b :: L', h => by
    simp only [List.map_cons, List.cons.injEq] at h
    rw [tl_inj a b h.1, map_tl_inj L L' h.2]
theorem Strs.txt {W : World} {v : Value} {L : List ByteArray} (h : Strs W v L) : ∃ al cl, v = .slice al L.length cl ∧ L.length ≤ cl ∧ Txt W al L ∧ (0 < L.length → ∃ b off, al = some ⟨b, off, none⟩) := by
  rcases h with ⟨rfl, rfl⟩ | ⟨b, off, cap, rfl, h1, h2, h3, h4⟩
  · exact ⟨none, 0, rfl, Nat.le_refl _, fun k hk => by simp at hk, fun hk => by simp at hk⟩
  · exact ⟨_, cap, rfl, h1, fun k hk => ⟨b, off, rfl, h3, h4 k hk⟩, fun _ => ⟨b, off, rfl⟩⟩
end Go.Proofs.YteleakbefebabaaDoor
