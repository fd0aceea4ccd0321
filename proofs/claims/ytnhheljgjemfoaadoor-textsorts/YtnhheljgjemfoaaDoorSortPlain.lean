/- Plain lists of byte texts, of no program: rising lists, that two rising lists of the same texts are one, and what sorting and dropping neighbours that are one makes. -/
import Derived.Lib.SlicesCompact
namespace Go.Proofs.YtnhheljgjemfoaaDoor

abbrev Bs := List UInt8
/-- rising, each once -/
def Up (l : List Bs) : Prop := l.Pairwise (fun a b => a < b)

theorem up_unique (A : List Bs) : ∀ B : List Bs, Up A → Up B → (∀ x, x ∈ A ↔ x ∈ B) → A = B := by
  induction A with
  | nil =>
    intro B _ _ h
    cases B with
    | nil => rfl
    | cons b B => exact absurd ((h b).2 (by simp)) (by simp)
  | cons a A ih =>
    intro B hA hB h
    cases B with
    | nil => exact absurd ((h a).1 (by simp)) (by simp)
    | cons b B =>
      have hA' := List.pairwise_cons.1 hA
      have hB' := List.pairwise_cons.1 hB
      have e : a = b := by
        rcases List.mem_cons.1 ((h a).1 (by simp)) with e | h1
        · exact e
        · rcases List.mem_cons.1 ((h b).2 (by simp)) with e | h2
          · exact e.symm
          · exact absurd (List.lt_trans (hB'.1 a h1) (hA'.1 b h2)) (List.lt_irrefl _)
      subst e
      rw [ih B hA'.2 hB'.2 fun x => ?_]
      constructor
      · intro hx
        rcases List.mem_cons.1 ((h x).1 (List.mem_cons_of_mem _ hx)) with e | h1
        · exact absurd (e ▸ hA'.1 x hx) (List.lt_irrefl _)
        · exact h1
      · intro hx
        rcases List.mem_cons.1 ((h x).2 (List.mem_cons_of_mem _ hx)) with e | h1
        · exact absurd (e ▸ hB'.1 x hx) (List.lt_irrefl _)
        · exact h1

theorem lt_of_le_ne {a b : Bs} (h : a ≤ b) (hn : a ≠ b) : a < b := by
  by_cases hb : b ≤ a
  · exact absurd (List.le_antisymm h hb) hn
  · exact List.not_le.1 hb

theorem compact_upto (zs : List Bs) (h : zs.Pairwise (fun a b => a ≤ b)) : ∀ m, m ≤ zs.length →
    Up (Lib.compactUpTo zs.toArray m) ∧ (∀ x, x ∈ Lib.compactUpTo zs.toArray m ↔ ∃ j, j < m ∧ zs.toArray[j]! = x) := by
  have hget : ∀ j (hj : j < zs.length), zs.toArray[j]! = zs[j] := fun j hj => by simp [hj]
  intro m
  induction m with
  | zero => intro _; exact ⟨by simp [Lib.compactUpTo, Up], fun x => by simp [Lib.compactUpTo]⟩
  | succ m ih =>
    intro hm
    obtain ⟨hu, hx⟩ := ih (by omega)
    rw [Lib.compactUpTo_succ]
    cases hk : Lib.keeps zs.toArray m with
    | true =>
      rw [if_pos rfl]
      refine ⟨?_, fun x => ?_⟩
      · refine List.pairwise_append.2 ⟨hu, by simp, fun x hxm y hy => ?_⟩
        obtain rfl : y = zs.toArray[m]! := by simpa using hy
        obtain ⟨j, hj, rfl⟩ := (hx x).1 hxm
        have hm0 : m ≠ 0 := by omega
        have hne : zs.toArray[m]! ≠ zs.toArray[m - 1]! := by
          rcases of_decide_eq_true hk with h0 | h0
          · exact absurd h0 hm0
          · exact h0
        rw [hget m (by omega), hget (m - 1) (by omega)] at hne
        rw [hget j (by omega), hget m (by omega)]
        have h1 : zs[m - 1] < zs[m] := lt_of_le_ne (List.pairwise_iff_getElem.1 h (m - 1) m (by omega) (by omega) (by omega)) (fun e => hne e.symm)
        by_cases hj1 : j = m - 1
        · subst hj1; exact h1
        · exact List.lt_of_le_of_lt (List.pairwise_iff_getElem.1 h j (m - 1) (by omega) (by omega) (by omega)) h1
      · rw [List.mem_append, hx x]
        constructor
        · rintro (⟨j, hj, e⟩ | hy)
          · exact ⟨j, by omega, e⟩
          · exact ⟨m, by omega, (by simpa using hy : x = _).symm⟩
        · rintro ⟨j, hj, e⟩
          by_cases hjm : j = m
          · subst hjm; exact .inr (by simp [e])
          · exact .inl ⟨j, by omega, e⟩
    | false =>
      rw [if_neg (by decide), List.append_nil]
      refine ⟨hu, fun x => ?_⟩
      rw [hx x]
      have hk' : ¬ (m = 0 ∨ zs.toArray[m]! ≠ zs.toArray[m - 1]!) := of_decide_eq_false hk
      have hm0 : m ≠ 0 := fun e => hk' (.inl e)
      have he : zs.toArray[m]! = zs.toArray[m - 1]! := Decidable.byContradiction fun e => hk' (.inr e)
      constructor
      · rintro ⟨j, hj, e⟩; exact ⟨j, by omega, e⟩
      · rintro ⟨j, hj, e⟩
        by_cases hjm : j = m
        · subst hjm; exact ⟨j - 1, by omega, by rw [← he]; exact e⟩
        · exact ⟨j, by omega, e⟩
theorem compact_up (zs : List Bs) (h : zs.Pairwise (fun a b => a ≤ b)) : Up (Lib.compact zs) ∧ ∀ x, x ∈ Lib.compact zs ↔ x ∈ zs := by
  obtain ⟨h1, h2⟩ := compact_upto zs h zs.length (Nat.le_refl _)
  refine ⟨h1, fun x => (h2 x).trans ?_⟩
  constructor
  · rintro ⟨j, hj, e⟩
    rw [← e]
    simp [hj]
  · intro hx
    obtain ⟨j, hj, e⟩ := List.getElem_of_mem hx
    exact ⟨j, hj, by simp [hj, e]⟩

/-- what Sort tells -/
def so (l : List Bs) : List Bs := Lib.compact (l.mergeSort fun x y => decide (x ≤ y))
theorem so_spec (l : List Bs) : Up (so l) ∧ ∀ x, x ∈ so l ↔ x ∈ l := by
  have hp : (l.mergeSort fun x y => decide (x ≤ y)).Pairwise (fun a b => a ≤ b) := by
    have := List.pairwise_mergeSort (le := fun x y : Bs => decide (x ≤ y)) (fun a b c h1 h2 => by simp only [decide_eq_true_eq] at *; exact List.le_trans h1 h2) (fun a b => by simp only [Bool.or_eq_true, decide_eq_true_eq]; exact List.le_total a b) l
    exact List.pairwise_iff_getElem.2 fun i j hi hj hij => of_decide_eq_true (List.pairwise_iff_getElem.1 this i j hi hj hij)
  obtain ⟨h1, h2⟩ := compact_up _ hp
  exact ⟨h1, fun x => (h2 x).trans (List.mergeSort_perm l _).mem_iff⟩
theorem so_self (l : List Bs) (h : Up l) : so l = l := up_unique _ _ (so_spec l).1 h (so_spec l).2
theorem so_len (l : List Bs) : (so l).length ≤ l.length := by
  have h : ∀ (d : Array Bs) m, (Lib.compactUpTo d m).length ≤ m := by
    intro d m
    unfold Lib.compactUpTo
    rw [List.length_map]
    have := List.length_filter_le (Lib.keeps d) (List.range m)
    simpa using this
  have := h (l.mergeSort fun x y => decide (x ≤ y)).toArray (l.mergeSort fun x y => decide (x ≤ y)).length
  exact Nat.le_trans this (Nat.le_of_eq (List.length_mergeSort l))

/-- a text put into a rising list, at the place where it belongs -/
theorem up_insert (A : List Bs) (x : Bs) (p : Nat) (hA : Up A) (h1 : ∀ i (h : i < A.length), i < p → A[i] < x) (h2 : ∀ i (h : i < A.length), p ≤ i → x < A[i]) : Up (A.take p ++ x :: A.drop p) := by
  refine List.pairwise_append.2 ⟨hA.take, ?_, ?_⟩
  · refine List.pairwise_cons.2 ⟨fun y hy => ?_, hA.drop⟩
    obtain ⟨j, hj, rfl⟩ := List.getElem_of_mem hy
    rw [List.getElem_drop]
    exact h2 _ _ (by omega)
  · intro y hy z hz
    obtain ⟨j, hj, rfl⟩ := List.getElem_of_mem hy
    rw [List.getElem_take]
    rw [List.length_take] at hj
    have hy' := h1 j (by omega) (by omega)
    rcases List.mem_cons.1 hz with rfl | hz
    · exact hy'
    · obtain ⟨k, hk, rfl⟩ := List.getElem_of_mem hz
      rw [List.getElem_drop]
      exact List.lt_trans hy' (h2 _ _ (by omega))
theorem mem_insert (A : List Bs) (x y : Bs) (p : Nat) : y ∈ A.take p ++ x :: A.drop p ↔ y = x ∨ y ∈ A := by
  conv => rhs; rw [← List.take_append_drop p A]
  simp only [List.mem_append, List.mem_cons]
  constructor
  · rintro (h | h | h)
    · exact .inr (.inl h)
    · exact .inl h
    · exact .inr (.inr h)
  · rintro (h | h | h)
    · exact .inr (.inl h)
    · exact .inl h
    · exact .inr (.inr h)
end Go.Proofs.YtnhheljgjemfoaaDoor
