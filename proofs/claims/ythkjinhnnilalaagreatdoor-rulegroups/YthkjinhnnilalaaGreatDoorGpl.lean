/- Plain lists of bytes: words with brackets as members' names. -/
import Derived.Test.YthkjinhnnilalaaGreatDoorGrp
namespace Go.Proofs.YthkjinhnnilalaaGreatDoor
open Go.RowKit Go.Shelf

/-- a word that ends a row -/
def endsP (x : Bs) : Bool := Lib.hasSuffix x [41]
/-- where a word's bracket stands -/
def ix (x : Bs) : Nat := (Lib.indexByte x 40).toNat
/-- a row may begin at a word -/
def begP (x : Bs) : Bool := decide (0 < Lib.indexByte x 40) && !endsP x
def emit (A m : Bs) : List Bs := if m.isEmpty then [] else [A ++ (40 :: (m ++ [41]))]
def cutS (x : Bs) : Bs := if endsP x then x.take (x.length - 1) else x
/-- the members of the words, the row of the archive A being open if it is a name -/
def grp : Bs → List Bs → List Bs
  | _, [] => []
  | A, x :: r => if A.isEmpty then (if begP x && r.any endsP then emit (x.take (ix x)) (x.drop (ix x + 1)) ++ grp (x.take (ix x)) r else x :: grp [] r) else emit A (cutS x) ++ grp (if endsP x then [] else A) r
theorem grp_nil (A : Bs) : grp A [] = [] := by cases A <;> rfl
theorem grp_word (x : Bs) (r : List Bs) (h : (begP x && r.any endsP) = false) : grp [] (x :: r) = x :: grp [] r := by
  rw [grp, if_pos (show ([] : Bs).isEmpty = true from rfl), h]
  rfl
theorem grp_begin (x : Bs) (r : List Bs) (h : begP x = true) (h2 : r.any endsP = true) : grp [] (x :: r) = emit (x.take (ix x)) (x.drop (ix x + 1)) ++ grp (x.take (ix x)) r := by
  rw [grp, if_pos (show ([] : Bs).isEmpty = true from rfl), h, h2]
  rfl
theorem grp_in (A x : Bs) (r : List Bs) (hA : A.isEmpty = false) : grp A (x :: r) = emit A (cutS x) ++ grp (if endsP x then [] else A) r := by
  rw [grp, if_neg (by rw [hA]; decide)]
theorem grp_len : ∀ (l : List Bs) (A : Bs), (grp A l).length ≤ l.length
  | [], A => by rw [grp_nil]; exact Nat.le_refl _
  | x :: r, A => by
    have he : ∀ A m, (emit A m).length ≤ 1 := fun A m => by unfold emit; split <;> simp
    have h1 := grp_len r
    unfold grp
    split
    · split
      · have := he (x.take (ix x)) (x.drop (ix x + 1)); have := h1 (x.take (ix x)); simp only [List.length_append, List.length_cons]; omega
      · have := h1 []; simp only [List.length_cons]; omega
    · have := he A (cutS x); have := h1 (if endsP x then [] else A); simp only [List.length_append, List.length_cons]; omega
theorem ib_lt (c : UInt8) : ∀ l : Bs, -1 ≤ Lib.indexByte l c ∧ Lib.indexByte l c < l.length
  | [] => by simp [Lib.indexByte]
  | b :: l => by
    have := ib_lt c l
    unfold Lib.indexByte
    simp only [List.length_cons]
    split
    · omega
    · split <;> omega
/-- a word's bracket -/
theorem ix_lt (x : Bs) (h : 0 < Lib.indexByte x 40) : Lib.indexByte x 40 = (ix x : Nat) ∧ 0 < ix x ∧ ix x < x.length := by
  have h2 := (ib_lt 40 x).2
  unfold ix
  omega
/-- the last word that ends a row stands at k or behind just where one there does -/
theorem lst_ge (L : List ByteArray) (k : Nat) : ∀ n, ((k : Int) ≤ lstL L n) ↔ ∃ j, k ≤ j ∧ j < n ∧ endsP (tl (L.getD j ⟨#[]⟩)) = true
  | 0 => by
    constructor
    · intro h; simp [lstL] at h; omega
    · rintro ⟨j, _, h, _⟩; omega
  | n + 1 => by
    have ih := lst_ge L k n
    unfold lstL
    by_cases hb : Lib.hasSuffix (tl (L.getD n ⟨#[]⟩)) [41] = true
    · rw [if_pos hb]
      constructor
      · intro h; exact ⟨n, by omega, by omega, hb⟩
      · rintro ⟨j, h1, h2, _⟩; omega
    · rw [if_neg hb, ih]
      constructor
      · rintro ⟨j, h1, h2, h3⟩; exact ⟨j, h1, by omega, h3⟩
      · rintro ⟨j, h1, h2, h3⟩
        by_cases e : j = n
        · subst e; exact absurd h3 hb
        · exact ⟨j, h1, by omega, h3⟩
theorem any_drop (L : List ByteArray) (k : Nat) : ((L.map tl).drop k).any endsP = true ↔ ∃ j, k ≤ j ∧ j < L.length ∧ endsP (tl (L.getD j ⟨#[]⟩)) = true := by
  rw [List.any_eq_true]
  constructor
  · rintro ⟨x, hx, he⟩
    obtain ⟨i, hi, rfl⟩ := List.mem_iff_getElem.1 hx
    rw [List.length_drop, List.length_map] at hi
    refine ⟨k + i, by omega, by omega, ?_⟩
    rw [List.getD_eq_getElem?_getD, List.getElem?_eq_getElem (by omega)]
    rw [List.getElem_drop, List.getElem_map] at he
    exact he
  · rintro ⟨j, h1, h2, h3⟩
    rw [List.getD_eq_getElem?_getD, List.getElem?_eq_getElem h2] at h3
    refine ⟨tl L[j], List.mem_iff_getElem.2 ⟨j - k, by rw [List.length_drop, List.length_map]; omega, ?_⟩, h3⟩
    rw [List.getElem_drop, List.getElem_map]
    simp only [show k + (j - k) = j by omega]
theorem drop_cons (L : List ByteArray) (k : Nat) (h : k < L.length) : (L.map tl).drop k = tl (L.getD k ⟨#[]⟩) :: (L.map tl).drop (k + 1) := by
  rw [List.drop_eq_getElem_cons (by rw [List.length_map]; exact h), List.getElem_map, List.getD_eq_getElem?_getD, List.getElem?_eq_getElem h]
  rfl
/-- is the word at k no end, and the last end at k or behind it, then there is an end behind it -/
theorem last_any (L : List ByteArray) (k : Nat) (h : endsP (tl (L.getD k ⟨#[]⟩)) = false) : ((L.map tl).drop (k + 1)).any endsP = decide ((k : Int) ≤ lstL L L.length) := by
  rw [Bool.eq_iff_iff, any_drop, decide_eq_true_iff, lst_ge]
  constructor
  · rintro ⟨j, h1, h2, h3⟩; exact ⟨j, by omega, h2, h3⟩
  · rintro ⟨j, h1, h2, h3⟩
    by_cases e : j = k
    · subst e; rw [h] at h3; cases h3
    · exact ⟨j, by omega, h2, h3⟩
/-- what is left of a word behind its bracket ends nothing -/
theorem rest_ends (x : Bs) (i : Nat) (h : endsP x = false) : endsP (x.drop i) = false := by
  cases hb : endsP (x.drop i) with
  | false => rfl
  | true =>
    unfold endsP at h hb
    have h1 : [41] <:+ x.drop i := List.isSuffixOf_iff_suffix.1 hb
    have h2 : [41] <:+ x := h1.trans (List.drop_suffix i x)
    rw [show Lib.hasSuffix x [41] = true from List.isSuffixOf_iff_suffix.2 h2] at h
    cases h
/-- ends, by the last byte -/
theorem ends_last (x : Bs) (h : x ≠ []) : endsP x = (x.getD (x.length - 1) 0 == 41) := by
  obtain ⟨y, c, rfl⟩ : ∃ y c, x = y ++ [c] := ⟨x.dropLast, x.getLast h, (List.dropLast_concat_getLast h).symm⟩
  have hg : (y ++ [c]).getD ((y ++ [c]).length - 1) 0 = c := by
    rw [show (y ++ [c]).length - 1 = y.length by simp, List.getD_eq_getElem?_getD, List.getElem?_append_right (Nat.le_refl _)]
    simp
  rw [hg, Bool.eq_iff_iff]
  constructor
  · intro he
    obtain ⟨t, ht⟩ := (List.isSuffixOf_iff_suffix.1 he : [41] <:+ y ++ [c])
    have := (List.append_inj' ht rfl).2
    simpa using this.symm
  · intro he
    have : c = 41 := by simpa using he
    subst this
    exact List.isSuffixOf_iff_suffix.2 ⟨y, rfl⟩
end Go.Proofs.YthkjinhnnilalaaGreatDoor
