/- Plain lists of bytes, of no program: what a reference's bracket is closed by; what begins at a place of a text; blanks. -/
import Derived.Test.YthkjinhnnilalaaGreatDoorWord
namespace Go.Proofs.YthkjinhnnilalaaGreatDoor

/-- from the place k on, n of the kind open: the place of the byte that closes -/
def cls (o c : UInt8) : Nat → Nat → List UInt8 → Option Nat
  | _, _, [] => none
  | k, n, x :: r => if x = o then cls o c (k + 1) (n + 1) r else if x = c then (match n with | 0 => some k | m + 1 => cls o c (k + 1) m r) else cls o c (k + 1) n r
theorem cls_open (o c : UInt8) (k n : Nat) (r : List UInt8) : cls o c k n (o :: r) = cls o c (k + 1) (n + 1) r := by cases n <;> simp [cls]
theorem cls_end (o c : UInt8) (k : Nat) (r : List UInt8) (h : ¬ c = o) : cls o c k 0 (c :: r) = some k := by simp [cls, h]
theorem cls_shut (o c : UInt8) (k n : Nat) (r : List UInt8) (h : ¬ c = o) : cls o c k (n + 1) (c :: r) = cls o c (k + 1) n r := by simp [cls, h]
theorem cls_byte (o c x : UInt8) (k n : Nat) (r : List UInt8) (h : ¬ x = o) (h' : ¬ x = c) : cls o c k n (x :: r) = cls o c (k + 1) n r := by cases n <;> simp [cls, h, h']
theorem cls_nil (o c : UInt8) (k n : Nat) : cls o c k n [] = none := rfl
theorem cls_ge (o c : UInt8) : ∀ (l : List UInt8) (k n i : Nat), cls o c k n l = some i → k ≤ i ∧ i < k + l.length
  | [], _, _, _, h => by rw [cls_nil] at h; cases h
  | x :: r, k, n, i, h => by
    simp only [List.length_cons]
    unfold cls at h
    split at h
    · have := cls_ge o c r _ _ _ h; omega
    · split at h
      · cases n with
        | zero => simp only [Option.some.injEq] at h; omega
        | succ m => have := cls_ge o c r _ _ _ h; omega
      · have := cls_ge o c r _ _ _ h; omega
theorem drop_at (s : ByteArray) (k : Nat) (h : k < s.size) : (tl s).drop k = s[k] :: (tl s).drop (k + 1) := by
  unfold tl
  rw [List.drop_eq_getElem_cons (by simpa using h)]; rfl
theorem drop_end (s : ByteArray) (k : Nat) (h : s.size ≤ k) : (tl s).drop k = [] := List.drop_eq_nil_of_le (by rw [tl_len]; exact h)
/-- what closes the bracket o -/
def shut (o : UInt8) : UInt8 := if o = 123 then 125 else 41
/-- what a bracket at the place k of the text leads to: the kind, and the place behind -/
def brk (l : List UInt8) (o : UInt8) (k : Nat) : Nat × Nat := match cls o (shut o) (k + 1) 0 (l.drop (k + 1)) with
  | some i => (2, i + 1)
  | none => (3, l.length)
/-- what begins at the place k of the text: 0 a byte, 1 a short reference, 2 a long one, 3 one without its end; and the place behind -/
def bg (l : List UInt8) (k : Nat) : Nat × Nat :=
  if l.getD k 0 = 36 ∧ k + 1 < l.length then
    (if l.getD (k + 1) 0 = 36 then (0, k + 2) else if l.getD (k + 1) 0 = 123 ∨ l.getD (k + 1) 0 = 40 then brk l (l.getD (k + 1) 0) (k + 1) else (1, k + 2))
  else (0, k + 1)
theorem brk_lt (l : List UInt8) (o : UInt8) (k : Nat) (h : k < l.length) : k < (brk l o k).2 ∧ (brk l o k).2 ≤ l.length := by
  unfold brk
  cases hc : cls o (shut o) (k + 1) 0 (l.drop (k + 1)) with
  | none => exact ⟨h, Nat.le_refl _⟩
  | some i => have := cls_ge _ _ _ _ _ _ hc; rw [List.length_drop] at this; exact ⟨by show k < i + 1; omega, by show i + 1 ≤ _; omega⟩
theorem bg_lt (l : List UInt8) (k : Nat) (h : k < l.length) : k < (bg l k).2 ∧ (bg l k).2 ≤ l.length := by
  unfold bg
  split
  · rename_i h1
    split
    · exact ⟨by show k < k + 2; omega, by show k + 2 ≤ _; omega⟩
    · split
      · have := brk_lt l (l.getD (k + 1) 0) (k + 1) h1.2; exact ⟨by omega, this.2⟩
      · exact ⟨by show k < k + 2; omega, by show k + 2 ≤ _; omega⟩
  · exact ⟨by show k < k + 1; omega, by show k + 1 ≤ _; omega⟩

/-- blanks -/
def bl (c : UInt8) : Bool := c.toNat == 32 || c.toNat == 9 || c.toNat == 10
theorem bl_yes (c : UInt8) (h : bl c = true) : c = 32 ∨ c = 9 ∨ c = 10 := by
  unfold bl at h
  simp only [Bool.or_eq_true, beq_iff_eq] at h
  rcases h with (h | h) | h
  · exact .inl (UInt8.toNat_inj.1 h)
  · exact .inr (.inl (UInt8.toNat_inj.1 h))
  · exact .inr (.inr (UInt8.toNat_inj.1 h))
theorem bl_no (c : UInt8) (h : bl c = false) : ¬ c.toNat = 32 ∧ ¬ c.toNat = 9 ∧ ¬ c.toNat = 10 := by
  unfold bl at h
  simp only [Bool.or_eq_false_iff, beq_eq_false_iff_ne] at h
  exact ⟨h.1.1, h.1.2, h.2⟩
theorem bne_yes (a c : UInt8) (cn : Nat) (hcn : c.toNat = cn) (h : ¬ a = c) : ((a.toNat : Int) != (cn : Int)) = true := bne_iff_ne.2 fun e => h (UInt8.toNat_inj.1 (by omega))
theorem bne_no (a c : UInt8) (cn : Nat) (hcn : c.toNat = cn) (h : a = c) : ((a.toNat : Int) != (cn : Int)) = false := by rw [h, hcn]; simp
/-- a byte at which Scan stops -/
def stp (st : List UInt8) (c : UInt8) : Bool := c != 36 && st.contains c
/-- the first place of a stop, from k on -/
def scn (st l : List UInt8) : Nat → Nat → Option Nat
  | 0, _ => none
  | f + 1, k => if k < l.length then (if (bg l k).1 = 0 ∧ stp st (l.getD k 0) = true then some k else scn st l f (bg l k).2) else none
theorem scn_past (st l : List UInt8) (f k : Nat) (h : l.length ≤ k) : scn st l f k = none := by
  cases f with
  | zero => rfl
  | succ f => rw [scn, if_neg (by omega)]
theorem scn_yes (st l : List UInt8) (f k : Nat) (h : k < l.length) (h1 : (bg l k).1 = 0) (h2 : stp st (l.getD k 0) = true) : scn st l (f + 1) k = some k := by rw [scn, if_pos h, if_pos ⟨h1, h2⟩]
theorem scn_no (st l : List UInt8) (f k : Nat) (h : k < l.length) (h1 : ¬ ((bg l k).1 = 0 ∧ stp st (l.getD k 0) = true)) : scn st l (f + 1) k = scn st l f (bg l k).2 := by rw [scn, if_pos h, if_neg h1]
end Go.Proofs.YthkjinhnnilalaaGreatDoor
