/- Lists of texts in memory; the contracts of anvillaw1.Same (at two lists that are one) and anvillaw1.Wipe. -/
import Derived.Test.YtaemmgllhmjceaaDoorMem
namespace Go.Proofs.YtaemmgllhmjceaaDoor
open Go.RowKit

/-- the slice v holds the texts L, in a block that there is -/
def Strs (W : World) (v : Value) (L : List ByteArray) : Prop :=
  (v = .slice none 0 0 ∧ L = []) ∨ ∃ b off cap, v = .slice (some ⟨b, off, none⟩) L.length cap ∧ L.length ≤ cap ∧ cap ≤ maxLen ∧ b < W.heap.size ∧ ∀ j, j < L.length → W.cell? ⟨b, off + j, none⟩ = some (.string (L.getD j ⟨#[]⟩))
theorem Strs.below {W W' : World} {v : Value} {L : List ByteArray} (h : Strs W v L) (hb : Below W.heap.size W W') : Strs W' v L := by
  rcases h with h | ⟨b, off, cap, e, h1, h2, h3, h4⟩
  · exact .inl h
  · exact .inr ⟨b, off, cap, e, h1, h2, Nat.lt_of_lt_of_le h3 hb.size, fun j hj => (hb.cell (p := ⟨b, off + j, none⟩) h3).trans (h4 j hj)⟩
theorem Strs.len {W : World} {v : Value} {L : List ByteArray} (h : Strs W v L) : L.length ≤ maxLen := by
  rcases h with ⟨_, rfl⟩ | ⟨b, off, cap, e, h1, h2, _⟩
  · exact Nat.zero_le _
  · omega
theorem Strs.of_row {W : World} {base : Nat} {v : Value} {L : List ByteArray} (h : W.ownsRow base 9 1 v L.length (L.map Value.string)) : Strs W v L := by
  rcases h.2 with ⟨rfl, h0⟩ | ⟨g, cap, cur, rfl, hg, hgb, h1, h2, h3, h4⟩
  · exact .inl ⟨rfl, List.length_eq_zero_iff.1 h0⟩
  · refine .inr ⟨g, 0, cap, rfl, h1, h2, (Array.getElem?_eq_some_iff.1 hgb).1, fun j hj => ?_⟩
    have hj' : (L.map Value.string)[j]? = some (.string (L.getD j ⟨#[]⟩)) := by
      rw [List.getElem?_map, List.getD_eq_getElem?_getD, List.getElem?_eq_getElem hj]; rfl
    rw [← h4, List.getElem?_take_of_lt (by omega)] at hj'
    simp only [World.cell?, hgb, Nat.zero_add]
    simpa using hj'

set_option maxHeartbeats 1000000 in
theorem same_some (L : List ByteArray) (b off cap b' off' cap' : Nat) (w : World) (hl : L.length ≤ maxLen) (hc : ∀ j, j < L.length → w.cell? ⟨b, off + j, none⟩ = some (.string (L.getD j ⟨#[]⟩))) (hc' : ∀ j, j < L.length → w.cell? ⟨b', off' + j, none⟩ = some (.string (L.getD j ⟨#[]⟩))) :
    Calls Tryd.prog 17 #[.slice (some ⟨b, off, none⟩) L.length cap, .slice (some ⟨b', off', none⟩) L.length cap'] w fun e w' => e = .returned (.bool true) ∧ ∃ q, w' = w.drewN q := by
  unfold maxLen at hl
  go_enter Tryd.func17, Tryd.ntmps17
  go_wp2
  go_loopw [5] (fun i wr => ∃ k : Nat, k ≤ L.length ∧ i = .int .i64 k ∧ ∃ q, wr = w.drewN q) (fun i _ => L.length - (intOf i).toNat)
  case atStart => exact ⟨0, Nat.zero_le _, rfl, 0, rfl⟩
  case round =>
    obtain ⟨k, hk, rfl, q, rfl⟩ := hrel
    by_cases hlt : k < L.length
    · have c1 := hc k hlt
      have c2 := hc' k hlt
      go_wp2
      go_region
      go_wp2
      exact ⟨⟨k + 1, by omega, by go_num, q + 1, rfl⟩, by simp [intOf]; omega⟩
    · go_wp2
      go_ret
      exact ⟨rfl, q, rfl⟩

theorem same_nil (w : World) (a a' : Option Addr) (cap cap' : Nat) :
    Calls Tryd.prog 17 #[.slice a 0 cap, .slice a' 0 cap'] w fun e w' => e = .returned (.bool true) ∧ ∃ q, w' = w.drewN q := by
  go_enter Tryd.func17, Tryd.ntmps17
  go_wp2
  go_loopw [5] (fun i wr => i = .int .i64 0 ∧ wr = w) (fun _ _ => 0)
  case atStart => exact ⟨rfl, rfl⟩
  case round =>
    obtain ⟨rfl, rfl⟩ := hrel
    go_wp2
    go_ret
    exact ⟨rfl, 0, rfl⟩

/-- Same, at two lists that are one -/
theorem same_any (L : List ByteArray) (v v' : Value) (w : World) (h : Strs w v L) (h' : Strs w v' L) :
    Calls Tryd.prog 17 #[v, v'] w fun e w' => e = .returned (.bool true) ∧ Below w.heap.size w w' := by
  have hl := h.len
  rcases h with ⟨rfl, rfl⟩ | ⟨b, off, cap, rfl, h1, h2, h3, h4⟩
  · rcases h' with ⟨rfl, _⟩ | ⟨b', off', cap', rfl, h1', h2', h3', h4'⟩
    · exact (same_nil w none none 0 0).mono fun e w' ⟨he, q, hq⟩ => ⟨he, hq ▸ below_drewn q⟩
    · exact (same_nil w none _ 0 cap').mono fun e w' ⟨he, q, hq⟩ => ⟨he, hq ▸ below_drewn q⟩
  · rcases h' with ⟨rfl, rfl⟩ | ⟨b', off', cap', rfl, h1', h2', h3', h4'⟩
    · exact (same_nil w _ none cap 0).mono fun e w' ⟨he, q, hq⟩ => ⟨he, hq ▸ below_drewn q⟩
    · exact (same_some L b off cap b' off' cap' w hl h4 h4').mono fun e w' ⟨he, q, hq⟩ => ⟨he, hq ▸ below_drewn q⟩

set_option maxHeartbeats 1000000 in
theorem wipe_some (n g cap : Nat) (base : Nat) (w : World) (hg : base ≤ g) (hn : n ≤ cap) (hc : cap ≤ maxLen) (hb : ∃ cur, w.heap[g]? = some (.cells cur 9 (0, 0)) ∧ cur.size = cap) :
    Calls Tryd.prog 9 #[.slice (some ⟨g, 0, none⟩) n cap] w fun e w' => e = .returned (.tuple #[]) ∧ Below base w w' := by
  unfold maxLen at hc
  go_enter Tryd.func9, Tryd.ntmps9
  go_wp2
  go_loopw [2] (fun i wr => ∃ k : Nat, k ≤ n ∧ i = .int .i64 k ∧ Below base w wr ∧ ∃ cur, wr.heap[g]? = some (.cells cur 9 (0, 0)) ∧ cur.size = cap) (fun i _ => n - (intOf i).toNat)
  case atStart => exact ⟨0, Nat.zero_le _, rfl, Below.refl _ _, hb⟩
  case round =>
    obtain ⟨k, hk, rfl, hB, cur, hcur, hsz⟩ := hrel
    by_cases hlt : k < n
    · have hx : wr.cell? ⟨g, k, none⟩ = some (cur[k]'(by omega)) := by simp [World.cell?, hcur, show k < cur.size by omega]
      have hf : wr.frozen? ⟨g, k, none⟩ = false := by simp [World.frozen?, hcur]
      generalize cur[k]'(by omega) = x0 at hx
      go_wp2
      exact ⟨⟨k + 1, by omega, by go_num, hB.setCell (p := ⟨g, k, none⟩) hg _, _, Go.heap_setCell_same _ _ _ _ _ _ hcur, by simp [hsz]⟩, by simp [intOf]; omega⟩
    · go_wp2
      go_end0
      exact ⟨rfl, hB⟩

theorem wipe_nil (w : World) (base : Nat) :
    Calls Tryd.prog 9 #[.slice none 0 0] w fun e w' => e = .returned (.tuple #[]) ∧ Below base w w' := by
  go_enter Tryd.func9, Tryd.ntmps9
  go_wp2
  go_loopw [2] (fun i wr => i = .int .i64 0 ∧ wr = w) (fun _ _ => 0)
  case atStart => exact ⟨rfl, rfl⟩
  case round =>
    obtain ⟨rfl, rfl⟩ := hrel
    go_wp2
    go_end0
    exact ⟨rfl, Below.refl _ _⟩

/-- Wipe, at a list of the caller's own: nothing but that list is written -/
theorem wipe_any (base n : Nat) (v : Value) (xs : List Value) (w : World) (h : w.ownsRow base 9 1 v n xs) :
    Calls Tryd.prog 9 #[v] w fun e w' => e = .returned (.tuple #[]) ∧ Below base w w' := by
  rcases h.2 with ⟨rfl, _⟩ | ⟨g, cap, cur, rfl, hg, hgb, h1, h2, h3, _⟩
  · exact wipe_nil w base
  · exact wipe_some n g cap base w hg h1 h2 ⟨cur, hgb, by omega⟩
set_option maxHeartbeats 1000000 in
theorem wipe_blk (n g cap : Nat) (w : World) (hn : n ≤ cap) (hc : cap ≤ maxLen) (hb : ∃ cur, w.heap[g]? = some (.cells cur 9 (0, 0)) ∧ cur.size = cap) :
    Calls Tryd.prog 9 #[.slice (some ⟨g, 0, none⟩) n cap] w fun e w' => e = .returned (.tuple #[]) ∧ Turn (· = g) w w' ∧ ∃ cur, w'.heap[g]? = some (.cells cur 9 (0, 0)) ∧ cur.size = cap := by
  unfold maxLen at hc
  go_enter Tryd.func9, Tryd.ntmps9
  go_wp2
  go_loopw [2] (fun i wr => ∃ k : Nat, k ≤ n ∧ i = .int .i64 k ∧ Turn (· = g) w wr ∧ ∃ cur, wr.heap[g]? = some (.cells cur 9 (0, 0)) ∧ cur.size = cap) (fun i _ => n - (intOf i).toNat)
  case atStart => exact ⟨0, Nat.zero_le _, rfl, Turn.refl _ _, hb⟩
  case round =>
    obtain ⟨k, hk, rfl, hB, cur, hcur, hsz⟩ := hrel
    by_cases hlt : k < n
    · have hx : wr.cell? ⟨g, k, none⟩ = some (cur[k]'(by omega)) := by simp [World.cell?, hcur, show k < cur.size by omega]
      have hf : wr.frozen? ⟨g, k, none⟩ = false := by simp [World.frozen?, hcur]
      generalize cur[k]'(by omega) = x0 at hx
      go_wp2
      have ht : Turn (· = g) wr (wr.setCell ⟨g, k, none⟩ (.string ⟨#[63]⟩)) := ⟨rfl, rfl, rfl, Nat.le_of_eq (by simp), fun j _ hj => set_other _ _ _ _ hj⟩
      exact ⟨⟨k + 1, by omega, by go_num, hB.trans ht fun _ h => .inl h, _, Go.heap_setCell_same _ _ _ _ _ _ hcur, by simp [hsz]⟩, by simp [intOf]; omega⟩
    · go_wp2
      go_end0
      exact ⟨rfl, hB, cur, hcur, hsz⟩
/-- a row that can be written: a block of texts, or none -/
def Wr (w : World) (B : Nat) (v : Value) : Prop := (∃ c, v = .slice none 0 c) ∨ ∃ g n cap, v = .slice (some ⟨g, 0, none⟩) n cap ∧ B ≤ g ∧ n ≤ cap ∧ cap ≤ maxLen ∧ ∃ cur, w.heap[g]? = some (.cells cur 9 (0, 0)) ∧ cur.size = cap
theorem Wr.of_own {w : World} {B n : Nat} {v : Value} {xs : List Value} (h : w.ownsRow B 9 1 v n xs) : Wr w B v := by
  rcases h.2 with ⟨rfl, _⟩ | ⟨g, cap, cur, rfl, hg, hgb, h1, h2, h3, _⟩
  · exact .inl ⟨0, rfl⟩
  · exact .inr ⟨g, n, cap, rfl, hg, h1, h2, cur, hgb, by omega⟩
theorem wipe_none (w : World) (c : Nat) : Calls Tryd.prog 9 #[.slice none 0 c] w fun e w' => e = .returned (.tuple #[]) ∧ w' = w := by
  go_enter Tryd.func9, Tryd.ntmps9
  go_wp2
  go_loopw [2] (fun i wr => i = .int .i64 0 ∧ wr = w) (fun _ _ => 0)
  case atStart => exact ⟨rfl, rfl⟩
  case round =>
    obtain ⟨rfl, rfl⟩ := hrel
    go_wp2
    go_end0
    exact ⟨rfl, rfl⟩
/-- Wipe, at a row that can be written: nothing but that row is written, and all others can be written still -/
theorem wipe_wr (w : World) (B : Nat) (v : Value) (h : Wr w B v) :
    Calls Tryd.prog 9 #[v] w fun e w' => e = .returned (.tuple #[]) ∧ Turn (fun k => v.ownBlock = some k) w w' ∧ Below B w w' ∧ ∀ B' v', Wr w B' v' → Wr w' B' v' := by
  rcases h with ⟨c, rfl⟩ | ⟨g, n, cap, rfl, hg, h1, h2, h3⟩
  · refine (wipe_none w c).mono ?_
    rintro e w' ⟨rfl, rfl⟩
    exact ⟨rfl, Turn.refl _ _, Below.refl _ _, fun _ _ h => h⟩
  · have hlt : g < w.heap.size := by obtain ⟨cur, hc, _⟩ := h3; exact lt_of_block hc
    obtain ⟨cur0, hc0, hs0⟩ := h3
    refine (wipe_blk n g cap w h1 h2 ⟨cur0, hc0, hs0⟩).mono ?_
    rintro e w' ⟨rfl, ht, cur, hcur, hsz⟩
    refine ⟨rfl, ht.mono fun i hi => (by simp [Value.ownBlock, hi]), ⟨ht.os, ht.tape, ht.output, ht.size, fun k hk => ?_⟩, fun B' v' h' => ?_⟩
    · by_cases hkw : k < w.heap.size
      · exact ht.block k hkw (by omega)
      · omega
    · rcases h' with h' | ⟨g', n', cap', e', hg', h1', h2', cur', hc', hs'⟩
      · exact .inl h'
      · by_cases hgg : g' = g
        · subst hgg
          rw [hc0] at hc'
          have : cap' = cap := by
            have := Option.some.inj hc'
            injection this with h9 _ _
            rw [← hs', ← h9, hs0]
          exact .inr ⟨g', n', cap', e', hg', h1', h2', cur, hcur, by rw [hsz, this]⟩
        · exact .inr ⟨g', n', cap', e', hg', h1', h2', cur', (ht.block g' (lt_of_block hc') hgg).trans hc', hs'⟩
end Go.Proofs.YtaemmgllhmjceaaDoor
