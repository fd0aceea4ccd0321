/- Plain: the parts of a text. -/
import Derived.Test.YtaemmgllhmjceaaDoorPt
namespace Go.Proofs.YtaemmgllhmjceaaDoor

/-- the bytes at the end made a part -/
def fl (row : Bs) (acc : List Pt) : List Pt := if row = [] then acc else acc ++ [⟨1, row, [], []⟩]
/-- the parts from the place k on, the bytes and the parts so far -/
def prs (l : Bs) : Nat → Nat → Bs → List Pt → Option (List Pt)
  | 0, _, _, _ => none
  | f + 1, k, row, acc =>
    if k < l.length then
      (if (bg l k).1 = 0 then prs l f (bg l k).2 (row ++ [l.getD k 0]) acc
      else if (bg l k).1 = 1 then prs l f (bg l k).2 [] (fl row acc ++ [vr (pc l (k + 1) (bg l k).2)])
      else if (bg l k).1 = 2 then prs l f (bg l k).2 [] (fl row acc ++ [ins (pc l (k + 2) ((bg l k).2 - 1))])
      else none)
    else some (fl row acc)
section
variable {l : Bs} {f k : Nat} {row : Bs} {acc : List Pt}
theorem prs_byte (h : k < l.length) (h0 : (bg l k).1 = 0) : prs l (f + 1) k row acc = prs l f (bg l k).2 (row ++ [l.getD k 0]) acc := by rw [prs, if_pos h, if_pos h0]
theorem prs_short (h : k < l.length) (h0 : (bg l k).1 = 1) : prs l (f + 1) k row acc = prs l f (bg l k).2 [] (fl row acc ++ [vr (pc l (k + 1) (bg l k).2)]) := by rw [prs, if_pos h, if_neg (by omega), if_pos h0]
theorem prs_long (h : k < l.length) (h0 : (bg l k).1 = 2) : prs l (f + 1) k row acc = prs l f (bg l k).2 [] (fl row acc ++ [ins (pc l (k + 2) ((bg l k).2 - 1))]) := by rw [prs, if_pos h, if_neg (by omega), if_neg (by omega), if_pos h0]
theorem prs_lost (h : k < l.length) (h0 : (bg l k).1 = 3) : prs l (f + 1) k row acc = none := by rw [prs, if_pos h, if_neg (by omega), if_neg (by omega), if_neg (by omega)]
theorem prs_end (h : ¬ k < l.length) : prs l (f + 1) k row acc = some (fl row acc) := by rw [prs, if_neg h]
end
theorem bg_kind (l : Bs) (k : Nat) : (bg l k).1 = 0 ∨ (bg l k).1 = 1 ∨ (bg l k).1 = 2 ∨ (bg l k).1 = 3 := by
  unfold bg
  split
  · split
    · exact .inl rfl
    · split
      · unfold brk
        split
        · exact .inr (.inr (.inl rfl))
        · exact .inr (.inr (.inr rfl))
      · exact .inr (.inl rfl)
  · exact .inl rfl
theorem bg_short (l : Bs) (k : Nat) (h : (bg l k).1 = 1) : (bg l k).2 = k + 2 ∧ k + 2 ≤ l.length := by
  unfold bg at h ⊢
  split at h
  · rename_i h1
    rw [if_pos h1]
    split at h
    · cases h
    · rename_i h2
      rw [if_neg h2]
      split at h
      · unfold brk at h
        split at h <;> cases h
      · rename_i h3
        rw [if_neg h3]
        exact ⟨rfl, by omega⟩
  · cases h
theorem bg_long (l : Bs) (k : Nat) (h : (bg l k).1 = 2) : k + 3 ≤ (bg l k).2 ∧ (bg l k).2 ≤ l.length := by
  unfold bg at h ⊢
  split at h
  · rename_i h1
    rw [if_pos h1]
    split at h
    · cases h
    · rename_i h2
      rw [if_neg h2]
      split at h
      · rename_i h3
        rw [if_pos h3]
        unfold brk at h ⊢
        cases hc : cls (l.getD (k + 1) 0) (shut (l.getD (k + 1) 0)) (k + 1 + 1) 0 (l.drop (k + 1 + 1)) with
        | none => rw [hc] at h; cases h
        | some i =>
          have := cls_ge _ _ _ _ _ _ hc
          rw [List.length_drop] at this
          exact ⟨by show k + 3 ≤ i + 1; omega, by show i + 1 ≤ _; omega⟩
      · cases h
  · cases h
theorem fl_len (row : Bs) (acc : List Pt) : (fl row acc).length ≤ acc.length + 1 := by unfold fl; split <;> simp
end Go.Proofs.YtaemmgllhmjceaaDoor
