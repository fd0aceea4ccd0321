/- Plain lists of bytes, of no program: the first per cent sign of a pattern, its two sides, what it matches, what is put into it. -/
import Derived.Lib.Strings
import Derived.Lib.Bytealg
namespace Go.Proofs.YthkjinhnnilalaaGreatDoor.Pt

/-- the first place of a %, or the length where there is none -/
def fp : List UInt8 → Nat
  | [] => 0
  | c :: r => if c = 37 then 0 else fp r + 1
def opn (l : List UInt8) : Bool := decide (fp l < l.length)
def ahd (l : List UInt8) : List UInt8 := l.take (fp l)
def bhd (l : List UInt8) : List UInt8 := l.drop (fp l + 1)

theorem fp_le (l : List UInt8) : fp l ≤ l.length := by
  induction l with
  | nil => exact Nat.le_refl _
  | cons c r ih => simp only [fp, List.length_cons]; split <;> omega
theorem fp_no (l : List UInt8) (h : opn l = false) : fp l = l.length := by
  have := fp_le l
  have h' : ¬ fp l < l.length := by simpa [opn] using h
  omega
theorem fp_yes (l : List UInt8) (h : opn l = true) : fp l < l.length := by simpa [opn] using h
theorem opn_of (l : List UInt8) (h : fp l < l.length) : opn l = true := decide_eq_true h
theorem index_fp (l : List UInt8) : Lib.indexByte l 37 = if opn l then (fp l : Int) else -1 := by
  induction l with
  | nil => rfl
  | cons c r ih =>
    unfold Lib.indexByte
    by_cases hc : c = 37
    · subst hc; simp [opn, fp]
    · have hb : (c == 37) = false := by simpa using hc
      rw [if_neg (by simp [hb]), ih]
      by_cases ho : opn r = true
      · have h1 := fp_yes r ho
        have h2 : opn (c :: r) = true := decide_eq_true (by simp only [fp, if_neg hc, List.length_cons]; omega)
        rw [if_pos ho, if_pos h2, if_neg (by simp)]
        simp only [fp, if_neg hc]
        omega
      · have ho' : opn r = false := by simpa using ho
        have h1 := fp_no r ho'
        have h2 : ¬ opn (c :: r) = true := by
          intro e
          have := fp_yes _ e
          simp only [fp, if_neg hc, List.length_cons] at this
          omega
        rw [if_neg ho, if_neg h2]
        rfl
theorem ahd_no (l : List UInt8) (h : opn l = false) : ahd l = l := by unfold ahd; rw [fp_no l h, List.take_length]
theorem bhd_no (l : List UInt8) (h : opn l = false) : bhd l = [] := by unfold bhd; rw [fp_no l h]; exact List.drop_eq_nil_of_le (by omega)
theorem ahd_len (l : List UInt8) : (ahd l).length = fp l := by unfold ahd; rw [List.length_take]; have := fp_le l; omega
theorem bhd_len (l : List UInt8) : (bhd l).length = l.length - (fp l + 1) := by unfold bhd; rw [List.length_drop]

/-- does w begin with a and end with b, without sharing a byte? -/
def both (a b w : List UInt8) : Bool := Lib.hasPrefix w a && Lib.hasSuffix (w.drop a.length) b
def stem (a b w : List UInt8) : List UInt8 := (w.drop a.length).take (w.length - a.length - b.length)
/-- what a shape (its sides, and whether it is open) matches: the stem, and whether it does -/
def ms (a b : List UInt8) (o : Bool) (w : List UInt8) : List UInt8 × Bool := if o then (if both a b w then (stem a b w, true) else ([], false)) else ([], w == a)
def mt (p w : List UInt8) : List UInt8 × Bool := ms (ahd p) (bhd p) (opn p) w
def ps (a b : List UInt8) (o : Bool) (s : List UInt8) : List UInt8 := if o then a ++ (s ++ b) else a
def put (p s : List UInt8) : List UInt8 := ps (ahd p) (bhd p) (opn p) s
def sub (p q w : List UInt8) : List UInt8 := if (mt p w).2 then (if opn p then put q (mt p w).1 else q) else w

theorem both_iff (a b w : List UInt8) : both a b w = (decide (a.length + b.length ≤ w.length) && ((w.take a.length == a) && (w.drop (w.length - b.length) == b))) := by
  unfold both
  rw [← Lib.hasPrefix_of_take, ← Lib.hasSuffix_of_drop, List.length_drop]
  by_cases h1 : a.length + b.length ≤ w.length
  · have h2 : a.length ≤ w.length := by omega
    have h3 : b.length ≤ w.length - a.length := by omega
    rw [List.drop_drop, show a.length + (w.length - a.length - b.length) = w.length - b.length by omega]
    simp [h1, h2, h3]
  · by_cases h2 : a.length ≤ w.length
    · have h3 : ¬ b.length ≤ w.length - a.length := by omega
      simp [h1, h3]
    · simp [h1, h2]
theorem stem_len (a b w : List UInt8) : (stem a b w).length ≤ w.length := by unfold stem; rw [List.length_take, List.length_drop]; omega
theorem mt_len (p w : List UInt8) : (mt p w).1.length ≤ w.length := by
  unfold mt ms
  split
  · split
    · exact stem_len _ _ _
    · exact Nat.zero_le _
  · exact Nat.zero_le _
theorem put_len (p s : List UInt8) : (put p s).length ≤ p.length + s.length := by
  unfold put ps
  split
  · rename_i h
    have := fp_yes p h
    rw [List.length_append, List.length_append, ahd_len, bhd_len]; omega
  · rw [ahd_len]; have := fp_le p; omega
theorem sub_len (p q w : List UInt8) : (sub p q w).length ≤ q.length + w.length := by
  unfold sub
  have h1 := put_len q (mt p w).1
  have h2 := mt_len p w
  split
  · split
    · omega
    · omega
  · omega
theorem both_app (a b s : List UInt8) : both a b (a ++ (s ++ b)) = true := by
  unfold both Lib.hasPrefix Lib.hasSuffix
  rw [List.drop_left]
  simp
theorem stem_app (a b s : List UInt8) : stem a b (a ++ (s ++ b)) = s := by
  unfold stem
  rw [List.drop_left, List.length_append, List.length_append, show a.length + (s.length + b.length) - a.length - b.length = s.length by omega, List.take_left]
theorem fp_app (a b : List UInt8) (h : opn a = false) : fp (a ++ 37 :: b) = a.length := by
  induction a with
  | nil => rfl
  | cons c r ih =>
    have h1 := fp_no _ h
    simp only [fp] at h1
    split at h1
    · simp at h1
    · rename_i hc
      have h2 : opn r = false := by simp only [List.length_cons] at h1; simp [opn]; omega
      simp [fp, hc, ih h2]
theorem opn_app (a b : List UInt8) (h : opn a = false) : opn (a ++ 37 :: b) = true := by simp [opn, fp_app a b h]
theorem ahd_app (a b : List UInt8) (h : opn a = false) : ahd (a ++ 37 :: b) = a := by unfold ahd; rw [fp_app a b h, List.take_left]
theorem bhd_app (a b : List UInt8) (h : opn a = false) : bhd (a ++ 37 :: b) = b := by unfold bhd; rw [fp_app a b h]; simp
theorem put_app (a b s : List UInt8) (h : opn a = false) : put (a ++ 37 :: b) s = a ++ (s ++ b) := by unfold put ps; rw [opn_app a b h, ahd_app a b h, bhd_app a b h]; rfl
theorem mt_app (a b s : List UInt8) (h : opn a = false) : mt (a ++ 37 :: b) (a ++ (s ++ b)) = (s, true) := by unfold mt ms; rw [opn_app a b h, ahd_app a b h, bhd_app a b h, both_app, stem_app]; rfl
theorem sub_app (a b q s : List UInt8) (h : opn a = false) : sub (a ++ 37 :: b) q (a ++ (s ++ b)) = put q s := by unfold sub; rw [mt_app a b s h, opn_app a b h]; rfl
end Go.Proofs.YthkjinhnnilalaaGreatDoor.Pt
