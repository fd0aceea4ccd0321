/- Of no program: the keys of a rising list, sorted, are that list. -/
import Derived.Test.YtamohpcdchhbbaaGreatDoorGood
namespace Go.Proofs.YtamohpcdchhbbaaGreatDoor
open Go
theorem before_lt : ∀ a b : Bs, bytesBefore a b = true ↔ a < b
  | [], [] => by simp [bytesBefore]
  | [], _ :: _ => by simp [bytesBefore]
  | _ :: _, [] => by simp [bytesBefore]
  | x :: r, y :: s => by
    rw [List.cons_lt_cons_iff]
    simp only [bytesBefore, Bool.or_eq_true, Bool.and_eq_true, decide_eq_true_eq, beq_iff_eq]
    rw [before_lt r s]
theorem le_before {a b : Bs} (h : a ≤ b) : a = b ∨ bytesBefore a b = true := by
  rcases before_total a b with h1 | h1 | h1
  · exact .inr h1
  · exact .inl h1
  · exact absurd ((before_lt b a).1 h1) (List.not_lt.2 h)
theorem before_le {a b : Bs} (h : bytesBefore a b = true) : a ≤ b := by
  refine List.not_lt.1 fun h1 => ?_
  have := (before_lt b a).2 h1
  rw [before_asymm h] at this
  cases this
/-- two rising lists of the same members are one -/
theorem rising_ext : ∀ l m : List Bs, l.Pairwise (fun a b => bytesBefore a b = true) → m.Pairwise (fun a b => bytesBefore a b = true) → (∀ x, x ∈ l ↔ x ∈ m) → l = m
  | [], [], _, _, _ => rfl
  | [], y :: s, _, _, h => absurd ((h y).2 List.mem_cons_self) (by simp)
  | x :: r, [], _, _, h => absurd ((h x).1 List.mem_cons_self) (by simp)
  | x :: r, y :: s, hl, hm, h => by
    obtain ⟨l1, l2⟩ := List.pairwise_cons.1 hl
    obtain ⟨m1, m2⟩ := List.pairwise_cons.1 hm
    have e : x = y := by
      rcases List.mem_cons.1 ((h x).1 List.mem_cons_self) with e | e
      · exact e
      · rcases List.mem_cons.1 ((h y).2 List.mem_cons_self) with e2 | e2
        · exact e2.symm
        · have h1 := m1 x e
          have h2 := l1 y e2
          rw [before_asymm h1] at h2
          cases h2
    subst e
    rw [rising_ext r s l2 m2 fun z => ?_]
    constructor
    · intro hz
      rcases List.mem_cons.1 ((h z).1 (List.mem_cons_of_mem _ hz)) with e | e
      · exact absurd e.symm (before_ne (l1 z hz))
      · exact e
    · intro hz
      rcases List.mem_cons.1 ((h z).2 (List.mem_cons_of_mem _ hz)) with e | e
      · exact absurd e.symm (before_ne (m1 z hz))
      · exact e
theorem sorted_keys {K ss : List Bs} (hK : K.Pairwise (fun a b => bytesBefore a b = true)) (hp : ss.Perm K) : ss.mergeSort (fun x y => decide (x ≤ y)) = K := by
  have hs : (ss.mergeSort (fun x y => decide (x ≤ y))).Perm K := (List.mergeSort_perm ss _).trans hp
  have hle : (ss.mergeSort (fun x y => decide (x ≤ y))).Pairwise (fun a b => decide (a ≤ b) = true) :=
    List.pairwise_mergeSort (fun a b c h1 h2 => by simp only [decide_eq_true_eq] at *; exact List.le_trans h1 h2) (fun a b => by simp only [Bool.or_eq_true, decide_eq_true_eq]; exact List.le_total a b) ss
  have hnd : (ss.mergeSort (fun x y => decide (x ≤ y))).Nodup := hs.nodup_iff.2 (hK.imp fun h => before_ne h)
  refine rising_ext _ _ ?_ hK fun x => hs.mem_iff
  have := List.Pairwise.and hle hnd
  exact this.imp fun h => (le_before (of_decide_eq_true h.1)).resolve_left h.2
end Go.Proofs.YtamohpcdchhbbaaGreatDoor
