/- Plain facts for anvilref1.Sort: the search for a place by halves, and a row of cells with a text put in. -/
import Derived.Test.YtnhheljgjemfoaaDoorSort
import Derived.Sort.Walk0
import Derived.Laws.CopyOwn
namespace Go.Proofs.YtnhheljgjemfoaaDoor
open Go.RowKit Go.Shelf

/-- below p all is smaller than x, from q on nothing is -/
def Mid (O : List ByteArray) (x : Bs) (p q : Nat) : Prop := (∀ i, i < O.length → i < p → tl (O.getD i ⟨#[]⟩) < x) ∧ (∀ i, i < O.length → q ≤ i → x ≤ tl (O.getD i ⟨#[]⟩))
theorem up_lt {O : List ByteArray} (h : Up (O.map tl)) (i j : Nat) (hij : i < j) (hj : j < O.length) : tl (O.getD i ⟨#[]⟩) < tl (O.getD j ⟨#[]⟩) := by
  have := List.pairwise_iff_getElem.1 h i j (by simp; omega) (by simpa using hj) hij
  rw [List.getElem_map, List.getElem_map] at this
  rw [List.getD_eq_getElem?_getD, List.getD_eq_getElem?_getD, List.getElem?_eq_getElem (by omega), List.getElem?_eq_getElem hj]
  exact this
theorem mid_lo {O : List ByteArray} {x : Bs} {p q m : Nat} (hU : Up (O.map tl)) (h : Mid O x p q) (hm : m < O.length) (hlt : tl (O.getD m ⟨#[]⟩) < x) : Mid O x (m + 1) q := by
  refine ⟨fun i hi him => ?_, h.2⟩
  by_cases e : i = m
  · subst e; exact hlt
  · exact List.lt_trans (up_lt hU i m (by omega) hm) hlt
theorem mid_hi {O : List ByteArray} {x : Bs} {p q m : Nat} (hU : Up (O.map tl)) (h : Mid O x p q) (hge : ¬ tl (O.getD m ⟨#[]⟩) < x) : Mid O x p m := by
  refine ⟨h.1, fun i hi him => ?_⟩
  have h0 := List.not_lt.1 hge
  by_cases e : i = m
  · subst e; exact h0
  · exact List.le_trans h0 (List.le_of_lt (up_lt hU m i (by omega) hi))
theorem mid_up {O : List ByteArray} {x : ByteArray} {p : Nat} (hU : Up (O.map tl)) (h : Mid O (tl x) p p) (hne : p < O.length → O.getD p ⟨#[]⟩ ≠ x) : Up ((O.take p ++ x :: O.drop p).map tl) := by
  rw [List.map_append, List.map_cons, List.map_take, List.map_drop]
  have hget : ∀ i (hi : i < (O.map tl).length), (O.map tl)[i] = tl (O.getD i ⟨#[]⟩) := fun i hi => by
    rw [List.length_map] at hi
    rw [List.getElem_map, List.getD_eq_getElem?_getD, List.getElem?_eq_getElem hi]
    rfl
  refine up_insert _ _ p hU (fun i hi hip => ?_) (fun i hi hip => ?_)
  · rw [hget i hi]; exact h.1 i (by simpa using hi) hip
  · rw [hget i hi]
    have hi' : i < O.length := by simpa using hi
    have hx := h.2 i hi' hip
    by_cases e : i = p
    · subst e
      refine lt_of_le_ne hx fun e => hne hi' ?_
      have := congrArg ba e
      rw [ba_tl, ba_tl] at this
      exact this.symm
    · exact List.lt_of_le_of_lt (h.2 p (by omega) (Nat.le_refl _)) (up_lt hU p i (by omega) hi')
theorem mem_ins {O : List ByteArray} {x : ByteArray} {p : Nat} (y : Bs) : y ∈ (O.take p ++ x :: O.drop p).map tl ↔ y = tl x ∨ y ∈ O.map tl := by
  rw [List.map_append, List.map_cons, List.map_take, List.map_drop]
  exact mem_insert _ _ _ _

/-- the cells of the row, with the texts from p on moved up by one and x laid at p -/
theorem ins_cells (cur : List Value) (O : List ByteArray) (x : ByteArray) (p : Nat) (hp : p ≤ O.length) (h : cur.take (O.length + 1) = O.map Value.string ++ [.string ⟨#[]⟩]) :
    ((splice cur (p + 1) ((O.drop p).map Value.string)).set p (.string x)).take (O.length + 1) = (O.take p ++ x :: O.drop p).map Value.string := by
  have hc : cur = (O.map Value.string ++ [.string ⟨#[]⟩]) ++ cur.drop (O.length + 1) := by rw [← h, List.take_append_drop]
  generalize cur.drop (O.length + 1) = rest at hc
  clear h
  subst hc
  have hO : O = O.take p ++ O.drop p := (List.take_append_drop p O).symm
  generalize hA : O.take p = A at hO
  generalize hB : O.drop p = B at hO
  have hAl : A.length = p := by rw [← hA, List.length_take]; omega
  clear hA hB hp
  subst hO
  unfold splice
  simp only [List.map_append, List.length_append, List.length_map]
  apply List.ext_getElem?
  intro i
  rw [List.getElem?_take]
  by_cases hi : i < A.length + B.length + 1
  · rw [if_pos hi, List.getElem?_set]
    by_cases hip : p = i
    · subst hip
      rw [if_pos rfl, if_pos (by simp; omega), List.getElem?_append_right (by simp [hAl])]
      simp [hAl]
    · rw [if_neg hip]
      by_cases hlo : i < p
      · rw [List.getElem?_append_left (by simp; omega), List.getElem?_take, if_pos (by omega), List.getElem?_append_left (by simp; omega), List.getElem?_append_left (by simp; omega), List.getElem?_append_left (by simp; omega), List.getElem?_append_left (by simp; omega)]
      · have hl1 : (List.take (p + 1) (A.map Value.string ++ B.map Value.string ++ [Value.string ⟨#[]⟩] ++ rest)).length = p + 1 := by simp; omega
        rw [List.getElem?_append_right (by rw [hl1]; omega), hl1, List.getElem?_append_left (by simp; omega), List.getElem?_append_right (by simp; omega), List.length_map, List.map_cons, show i - A.length = (i - (p + 1)) + 1 by omega, List.getElem?_cons_succ]
  · rw [if_neg hi, List.getElem?_eq_none]
    simp
    omega
end Go.Proofs.YtnhheljgjemfoaaDoor
