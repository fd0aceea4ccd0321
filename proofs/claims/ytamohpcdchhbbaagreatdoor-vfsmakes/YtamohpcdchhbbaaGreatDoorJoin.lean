/- Lists of names in memory; the contract of path.join: names with slashes between. -/
import Derived.Test.YtamohpcdchhbbaaGreatDoorBuild
namespace Go.Proofs.YtamohpcdchhbbaaGreatDoor
open Go.RowKit Go.Shelf

abbrev sv (x : List UInt8) : Value := .string (mk x)
/-- a row of this call's own that holds the names K -/
abbrev Row (W : World) (base : Nat) (v : Value) (K : List (List UInt8)) : Prop := W.ownsRow base 9 1 v K.length (K.map sv)
/-- the slice v holds the names K, in a block that there is -/
def Strs (W : World) (v : Value) (K : List (List UInt8)) : Prop :=
  (v = .slice none 0 0 ∧ K = []) ∨ ∃ b off cap, v = .slice (some ⟨b, off, none⟩) K.length cap ∧ K.length ≤ cap ∧ cap ≤ maxLen ∧ b < W.heap.size ∧ ∀ j, j < K.length → W.cell? ⟨b, off + j, none⟩ = some (sv (K.getD j []))
theorem Strs.below {W W' : World} {v : Value} {L : List (List UInt8)} (h : Strs W v L) (hb : Below W.heap.size W W') : Strs W' v L := by
  rcases h with h | ⟨b, off, cap, e, h1, h2, h3, h4⟩
  · exact .inl h
  · exact .inr ⟨b, off, cap, e, h1, h2, Nat.lt_of_lt_of_le h3 hb.size, fun j hj => (hb.cell (p := ⟨b, off + j, none⟩) h3).trans (h4 j hj)⟩
theorem Strs.of_row {W : World} {base : Nat} {v : Value} {L : List (List UInt8)} (h : Row W base v L) : Strs W v L := by
  rcases h.2 with ⟨rfl, h0⟩ | ⟨g, cap, cur, rfl, hg, hgb, h1, h2, h3, h4⟩
  · exact .inl ⟨rfl, List.length_eq_zero_iff.1 h0⟩
  · refine .inr ⟨g, 0, cap, rfl, h1, h2, (Array.getElem?_eq_some_iff.1 hgb).1, fun j hj => ?_⟩
    have hj' : (L.map sv)[j]? = some (sv (L.getD j [])) := by
      rw [List.getElem?_map, List.getD_eq_getElem?_getD, List.getElem?_eq_getElem hj]; rfl
    rw [← h4, List.getElem?_take_of_lt (by omega)] at hj'
    simp only [World.cell?, hgb, Nat.zero_add]
    simpa using hj'

theorem sl_next (K : List (List UInt8)) (k : Nat) (h : k < K.length) : sl true (K.take (k + 1)) = sl true (K.take k) ++ ((if k = 0 then [] else [47]) ++ K.getD k []) := by
  rw [List.take_succ_eq_append_getElem h, sl_append, List.getD_eq_getElem?_getD, List.getElem?_eq_getElem h]
  have e : (K.take k).isEmpty = decide (k = 0) := by
    cases k with
    | zero => simp
    | succ k => cases K with
      | nil => simp at h
      | cons _ _ => simp
  rw [e]
  by_cases hk : k = 0 <;> simp [sl, hk]
theorem tw_take (K : List (List UInt8)) (k : Nat) : tw (K.take k) ≤ tw K := by
  conv => rhs; rw [← List.take_append_drop k K, tw_append]
  omega
theorem sl_take_len (K : List (List UInt8)) (k : Nat) : (sl true (K.take k)).length ≤ tw K := Nat.le_trans (sl_tw _ _) (tw_take K k)

set_option maxRecDepth 100000 in
set_option maxHeartbeats 1000000 in
theorem join_some (K : List (List UInt8)) (b off cap : Nat) (w : World) (hb : b < w.heap.size) (hc : ∀ j, j < K.length → w.cell? ⟨b, off + j, none⟩ = some (sv (K.getD j [])))
    (hj : tw K ≤ 1000000) :
    Calls Tryz.prog 81 #[.slice (some ⟨b, off, none⟩) K.length cap] w fun e w' => e = .returned (.string (mk (sl true K))) ∧ Below w.heap.size w w' := by
  have hl : K.length ≤ 1000000 := Nat.le_trans (len_tw K) hj
  have hb0 := Lib.fresh_isBuilder 143 5 w
  have HC := hide' hc
  clear hc
  go_enter Tryz.func81, Tryz.ntmps81
  go_wp2
  go_loopw [8] (fun i wr => ∃ k : Nat, k ≤ K.length ∧ i = .int .i64 k ∧ Bld w.heap.size w.heap.size (sl true (K.take k)) wr ∧ Below w.heap.size w wr) (fun i _ => K.length - (intOf i).toNat)
  case atStart => exact ⟨0, Nat.zero_le _, rfl, hb0, (Below.refl _ w).alloc (Nat.le_refl _) _⟩
  case round =>
    obtain ⟨k, hk, rfl, hbl, hB⟩ := hrel
    have hsz := hB.size
    by_cases hlt : k < K.length
    · have c1 := (hB.cell (p := ⟨b, off + k, none⟩) hb).trans (HC.out k hlt)
      have hnx := sl_next K k hlt
      have hle := Nat.le_trans (sl_take_len K (k + 1)) hj
      generalize K.getD k [] = x at c1 hnx
      by_cases h0 : k = 0
      · rw [if_pos h0, List.nil_append] at hnx
        have hln : (sl true (K.take k)).length + (mk x).size ≤ 140737488355328 := by rw [hnx, List.length_append] at hle; rw [mk_size]; omega
        have HN := hide' hnx
        clear hnx hle
        subst h0
        rw [Nat.add_zero] at c1
        generalize sl true (K.take 0) = P0 at hbl hln HN
        go_wp2_with (go_at_call 102; refine (write_any _ _ _ _ _ hbl hln hsz).mono ?_; rintro e w2 ⟨rfl, hb2, hB2⟩)
        exact ⟨⟨1, by omega, by go_num, by rw [HN.out, ← tl_mk x]; exact hb2, hB.trans hB2⟩, by simp [intOf]; omega⟩
      · rw [if_neg h0, ← List.append_assoc] at hnx
        have hln : ((sl true (K.take k)) ++ [47]).length + (mk x).size ≤ 140737488355328 := by rw [hnx, List.length_append] at hle; rw [mk_size]; omega
        have hln0 : (sl true (K.take k)).length + 1 ≤ 140737488355328 := by rw [List.length_append] at hln; simp at hln; omega
        have HN := hide' hnx
        have d0 : (0 : Int) < k := by omega
        clear hnx hle
        go_wp2_with fail
        refine (wbyte_any _ _ _ 47 47 rfl _ hbl hln0 hsz).mono ?_
        rintro e w2 ⟨rfl, hb2, hB2⟩
        go_wp2_with fail
        refine (write_any _ _ _ _ _ hb2 hln (Nat.le_trans hsz hB2.size)).mono ?_
        rintro e w3 ⟨rfl, hb3, hB3⟩
        go_wp2
        exact ⟨⟨k + 1, by omega, by go_num, by rw [HN.out, ← tl_mk x]; exact hb3, (hB.trans hB2).trans hB3⟩, by simp [intOf]; omega⟩
    · have hke : K.take k = K := List.take_of_length_le (by omega)
      rw [hke] at hbl
      clear hke
      go_wp2_with (go_at_call 103; refine (string_any _ _ _ _ hbl hsz).mono ?_; rintro e w2 ⟨rfl, hB2⟩)
      go_ret
      exact ⟨rfl, hB.trans hB2⟩

theorem join_nil (a : Option Addr) (cap : Nat) (w : World) :
    Calls Tryz.prog 81 #[.slice a 0 cap] w fun e w' => e = .returned (.string (mk [])) ∧ Below w.heap.size w w' := by
  have hb0 := Lib.fresh_isBuilder 143 5 w
  go_enter Tryz.func81, Tryz.ntmps81
  go_wp2
  go_loopw [8] (fun i wr => i = .int .i64 0 ∧ Bld w.heap.size w.heap.size [] wr ∧ Below w.heap.size w wr) (fun _ _ => 0)
  case atStart => exact ⟨rfl, hb0, (Below.refl _ w).alloc (Nat.le_refl _) _⟩
  case round =>
    obtain ⟨rfl, hbl, hB⟩ := hrel
    have hsz := hB.size
    go_wp2_with (go_at_call 103; refine (string_any _ _ _ _ hbl hsz).mono ?_; rintro e w2 ⟨rfl, hB2⟩)
    go_ret
    exact ⟨rfl, hB.trans hB2⟩

theorem join_any (K : List (List UInt8)) (v : Value) (w : World) (h : Strs w v K) (hj : tw K ≤ 1000000) :
    Calls Tryz.prog 81 #[v] w fun e w' => e = .returned (.string (mk (sl true K))) ∧ Below w.heap.size w w' := by
  rcases h with ⟨rfl, rfl⟩ | ⟨b, off, cap, rfl, h1, h2, h3, h4⟩
  · exact join_nil none 0 w
  · exact join_some K b off cap w h3 h4 hj
end Go.Proofs.YtamohpcdchhbbaaGreatDoor
