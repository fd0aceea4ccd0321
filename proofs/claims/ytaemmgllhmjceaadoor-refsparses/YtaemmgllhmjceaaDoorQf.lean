/- Plain: a function's name ahead of a blank. -/
import Derived.Test.YtaemmgllhmjceaaDoorIns
namespace Go.Proofs.YtaemmgllhmjceaaDoor

/-- the text begins with the name of the j-th function and a blank -/
def Qf (l : Bs) (j : Nat) : Prop := (fnAt j).1.length < l.length ∧ l.take (fnAt j).1.length = (fnAt j).1 ∧ bl (l.getD (fnAt j).1.length 0) = true
theorem all_nb (l : Bs) (h : l.any bl = false) : l.all nb = true := by
  rw [List.all_eq_true]
  intro x hx
  have := List.any_eq_false.1 h x hx
  unfold nb
  simpa using this
theorem drop_getD (l : Bs) (k : Nat) (h : k < l.length) : l.drop k = l.getD k 0 :: l.drop (k + 1) := by
  rw [List.drop_eq_getElem_cons h, List.getD_eq_getElem?_getD, List.getElem?_eq_getElem h]; rfl
theorem qf_ia (l : Bs) (j : Nat) (hj : j < 34) (h : Qf l j) : ia l = (fnAt j).1.length := by
  obtain ⟨h1, h2, h3⟩ := h
  have := ia_skip (fnAt j).1.length l (by omega) (by rw [h2]; exact all_nb _ (fn_small j hj).2.1)
  rw [drop_getD l _ h1, ia_blank _ _ h3] at this
  simpa using this
theorem ia_pos : ∀ (l : Bs) (a : Nat), ia l = a → a < l.length ∧ bl (l.getD a 0) = true
  | [], a, h => by rw [ia_nil] at h; omega
  | b :: r, a, h => by
    cases hb : bl b with
    | true =>
      rw [ia_blank b r hb] at h
      obtain rfl : a = 0 := by omega
      exact ⟨by simp, by simpa using hb⟩
    | false =>
      rw [ia_cons b r hb] at h
      split at h
      · omega
      · rename_i hn
        have hg := ia_ge r
        obtain ⟨a', rfl⟩ : ∃ a', a = a' + 1 := ⟨a - 1, by omega⟩
        have := ia_pos r a' (by omega)
        exact ⟨by simp; exact this.1, by simpa using this.2⟩
theorem qf_one (l : Bs) (i j : Nat) (hi : i < 34) (hj : j < 34) (h : Qf l i) (h' : Qf l j) : i = j := by
  have e1 := qf_ia l i hi h
  have e2 := qf_ia l j hj h'
  have e3 : (fnAt i).1.length = (fnAt j).1.length := by omega
  exact fn_inj i j hi hj (by rw [← h.2.1, ← h'.2.1, e3])
theorem ins_yes (l : Bs) (j : Nat) (hj : j < 34) (h : Qf l j) : ins l = ⟨3, [], (fnAt j).1, arg (fnAt j).2.2 [] [] [] ((l.drop (fnAt j).1.length).dropWhile bl)⟩ := by
  have e1 := qf_ia l j hj h
  unfold ins
  rw [if_neg (by omega), e1]
  simp only [Int.toNat_natCast]
  rw [h.2.1, fnd_yes _ j hj rfl]
theorem ins_no (l : Bs) (h : ∀ j, j < 34 → ¬ Qf l j) : ins l = vr l := by
  unfold ins
  by_cases h0 : ia l < 0
  · rw [if_pos h0]
  · rw [if_neg h0]
    obtain ⟨a, ha⟩ := Int.eq_ofNat_of_zero_le (by omega : 0 ≤ ia l)
    rw [ha]
    simp only [Int.toNat_natCast]
    cases hf : fnd (l.take a) with
    | none => rfl
    | some f =>
      exfalso
      have hfd := hf
      unfold fnd at hf
      obtain ⟨j, hj, rfl⟩ := mem_fn f (List.mem_of_find?_eq_some hf)
      have h2 : (fnAt j).1 = l.take a := by simpa using List.find?_some hf
      have h3 := ia_pos l a ha
      have hl : (fnAt j).1.length = a := by rw [h2, List.length_take]; omega
      exact h j hj ⟨by rw [hl]; exact h3.1, by rw [hl]; exact h2.symm, by rw [hl]; exact h3.2⟩
end Go.Proofs.YtaemmgllhmjceaaDoor
