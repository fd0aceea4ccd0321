/- Plain lists of bytes, of no program: blanks, the words of a text, where a word ends. -/
import Derived.Lib.Strings
import Derived.Lib.IndexBytes
namespace Go.Proofs.YtnhheljgjemfoaaDoor

def bl (c : UInt8) : Bool := c.toNat == 32 || c.toNat == 9 || c.toNat == 10
def nb (c : UInt8) : Bool := !bl c
def wgo : List UInt8 → List UInt8 → List (List UInt8)
  | cur, [] => if cur.isEmpty then [] else [cur]
  | cur, c :: r => if bl c then (if cur.isEmpty then wgo [] r else cur :: wgo [] r) else wgo (cur ++ [c]) r
def words (l : List UInt8) : List (List UInt8) := wgo [] l

theorem words_nil : words [] = [] := rfl
theorem words_blank (c : UInt8) (r : List UInt8) (h : bl c = true) : words (c :: r) = words r := by simp [words, wgo, h]
theorem wgo_cur (l : List UInt8) : ∀ cur : List UInt8, cur.isEmpty = false → wgo cur l = (cur ++ l.takeWhile nb) :: words (l.dropWhile nb) := by
  induction l with
  | nil => intro cur h; simp [wgo, h, words]
  | cons c r ih =>
    intro cur h
    by_cases hc : bl c = true
    · have hn : nb c = false := by simp [nb, hc]
      simp [wgo, hc, h, hn, words]
    · have hn : nb c = true := by simp [nb, hc]
      rw [wgo, if_neg hc, ih _ (by simp)]
      simp [hn]
theorem words_word (c : UInt8) (r : List UInt8) (h : bl c = false) : words (c :: r) = ((c :: r).takeWhile nb) :: words ((c :: r).dropWhile nb) := by
  have hn : nb c = true := by simp [nb, h]
  have : words (c :: r) = wgo [c] r := by simp [words, wgo, h]
  rw [this, wgo_cur r [c] rfl]
  simp [hn]
/-- how far the word goes that begins ahead of l -/
def wl (l : List UInt8) : Nat := (l.takeWhile nb).length
theorem wl_nil : wl [] = 0 := rfl
theorem wl_blank (c : UInt8) (r : List UInt8) (h : bl c = true) : wl (c :: r) = 0 := by simp [wl, nb, h]
theorem wl_cons (c : UInt8) (r : List UInt8) (h : bl c = false) : wl (c :: r) = wl r + 1 := by simp [wl, nb, h]
theorem wl_le (l : List UInt8) : wl l ≤ l.length := by
  unfold wl
  exact (List.takeWhile_prefix nb).length_le
theorem takeWhile_take (l : List UInt8) : l.takeWhile nb = l.take (wl l) := by
  unfold wl
  exact List.prefix_iff_eq_take.1 (List.takeWhile_prefix nb)
theorem dropWhile_drop (l : List UInt8) : l.dropWhile nb = l.drop (wl l) := by
  have h := List.takeWhile_append_dropWhile (p := nb) (l := l)
  unfold wl
  generalize l.takeWhile nb = a at h ⊢
  generalize l.dropWhile nb = b at h ⊢
  rw [← h]
  simp
theorem words_at (l : List UInt8) (h : 0 < wl l) : words l = l.take (wl l) :: words (l.drop (wl l)) := by
  cases l with
  | nil => simp [wl] at h
  | cons c r =>
    by_cases hc : bl c = true
    · rw [wl_blank c r hc] at h; omega
    · have hc' : bl c = false := by simpa using hc
      rw [words_word c r hc', takeWhile_take, dropWhile_drop]
theorem words_short (l : List UInt8) : ∀ x ∈ words l, x.length ≤ l.length := by
  suffices H : ∀ (l cur : List UInt8), ∀ x ∈ wgo cur l, x.length ≤ cur.length + l.length by
    intro x hx; have := H l [] x hx; simpa using this
  intro l
  induction l with
  | nil => intro cur x hx; by_cases h : cur.isEmpty <;> simp [wgo, h] at hx; subst hx; simp
  | cons c r ih =>
    intro cur x hx
    by_cases hc : bl c = true
    · by_cases h : cur.isEmpty
      · simp only [wgo, hc, h, if_true] at hx
        have := ih [] x hx; simp at this ⊢; omega
      · simp only [wgo, hc, h, if_true] at hx
        rcases List.mem_cons.1 hx with rfl | hx
        · simp
        · have := ih [] x hx; simp at this ⊢; omega
    · simp only [wgo, hc] at hx
      have := ih _ x hx; simp at this ⊢; omega
theorem words_len (l : List UInt8) : (words l).length ≤ l.length := by
  suffices H : ∀ (l cur : List UInt8), (wgo cur l).length ≤ cur.length + l.length by
    have := H l []; simpa [words] using this
  intro l
  induction l with
  | nil => intro cur; cases cur <;> simp [wgo]
  | cons c r ih =>
    intro cur
    by_cases hc : bl c = true
    · cases cur with
      | nil => simp only [wgo, hc, if_true, List.isEmpty_nil]; have := ih []; simp at this ⊢; omega
      | cons d m => simp [wgo, hc]; have := ih []; simp at this; omega
    · simp only [wgo, hc]; have := ih (cur ++ [c]); simp at this ⊢; omega
end Go.Proofs.YtnhheljgjemfoaaDoor
