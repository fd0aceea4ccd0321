/- Plain lists of bytes, of no program: backslashes at an end, lines that go on, their texts, what stands ahead of a comment, the lines of a text. -/
import Derived.Lib.Strings
import Derived.Lib.Bytealg
import Derived.Lib.SlTrimSet
namespace Go.Proofs.YteleakbefebabaaDoor

/-- how many backslashes stand at the end -/
def nb (l : List UInt8) : Nat := (l.reverse.takeWhile (· == 92)).length
/-- does a line end with an odd number of them? -/
def opn (l : List UInt8) : Bool := nb l % 2 == 1
theorem nb_nil : nb [] = 0 := rfl
theorem nb_yes (l : List UInt8) : nb (l ++ [92]) = nb l + 1 := by simp [nb]
theorem nb_no (l : List UInt8) (c : UInt8) (h : ¬ c = 92) : nb (l ++ [c]) = 0 := by simp [nb, h]
theorem nb_le (l : List UInt8) : nb l ≤ l.length := by
  unfold nb
  have := (List.takeWhile_prefix (p := (· == (92 : UInt8))) (l := l.reverse)).length_le
  simpa using this
theorem opn_ne {l : List UInt8} (h : opn l = true) : l ≠ [] := by
  rintro rfl
  simp [opn, nb] at h
/-- a line that goes on ends with a backslash -/
theorem opn_last {l : List UInt8} (h : opn l = true) : ∃ p, l = p ++ [92] := by
  rcases List.eq_nil_or_concat l with rfl | ⟨p, c, rfl⟩
  · exact absurd rfl (opn_ne h)
  · by_cases hc : c = 92
    · exact ⟨p, by rw [hc]; simp⟩
    · exfalso
      rw [List.concat_eq_append] at h
      simp [opn, nb_no p c hc] at h

/-- the lines that are the first logical line -/
def jn : List (List UInt8) → List (List UInt8)
  | [] => []
  | x :: r => x :: (if opn x then jn r else [])
theorem jn_le : ∀ (l : List (List UInt8)), (jn l).length ≤ l.length
  | [] => Nat.le_refl _
  | x :: r => by
    simp only [jn, List.length_cons]
    split
    · have := jn_le r; omega
    · simp
theorem jn_pos {l : List (List UInt8)} (h : 0 < l.length) : 0 < (jn l).length := by
  cases l with
  | nil => simp at h
  | cons x r => simp [jn]
/-- where all of a beginning go on, the logical line goes through it -/
theorem jn_on (p r : List (List UInt8)) (h : ∀ y ∈ p, opn y = true) : jn (p ++ r) = p ++ jn r := by
  induction p with
  | nil => rfl
  | cons x p ih =>
    rw [List.cons_append, jn, if_pos (h x (List.mem_cons_self)), ih (fun y hy => h y (List.mem_cons_of_mem _ hy))]
    rfl
theorem jn_end (p r : List (List UInt8)) (x : List UInt8) (h : ∀ y ∈ p, opn y = true) (hx : opn x = false) : jn (p ++ x :: r) = p ++ [x] := by
  rw [jn_on p _ h, jn, hx]; rfl

def blk : List UInt8 := [32, 9, 10]
def untab (x : List UInt8) : List UInt8 := Lib.trimPrefix x [9]
/-- one line more, of a recipe and of any other -/
def rstep (b : List UInt8) (n : Nat) (x : List UInt8) : List UInt8 := (if n = 0 then b else b ++ [10]) ++ untab x
def ostep (b : List UInt8) (n : Nat) (x : List UInt8) : List UInt8 := if n = 0 then b ++ x else Lib.trimRightS b.dropLast blk ++ [32] ++ Lib.trimLeftS x blk
def rfold : List UInt8 → Nat → List (List UInt8) → List UInt8
  | b, _, [] => b
  | b, n, x :: r => rfold (rstep b n x) (n + 1) r
def ofold : List UInt8 → Nat → List (List UInt8) → List UInt8
  | b, _, [] => b
  | b, n, x :: r => ofold (ostep b n x) (n + 1) r
theorem rfold_snoc (p : List (List UInt8)) (x : List UInt8) : ∀ (b : List UInt8) (n : Nat), rfold b n (p ++ [x]) = rstep (rfold b n p) (n + p.length) x := by
  induction p with
  | nil => intro b n; simp [rfold]
  | cons y p ih => intro b n; simp only [List.cons_append, rfold, ih, List.length_cons]; congr 1; omega
theorem ofold_snoc (p : List (List UInt8)) (x : List UInt8) : ∀ (b : List UInt8) (n : Nat), ofold b n (p ++ [x]) = ostep (ofold b n p) (n + p.length) x := by
  induction p with
  | nil => intro b n; simp [ofold]
  | cons y p ih => intro b n; simp only [List.cons_append, ofold, ih, List.length_cons]; congr 1; omega
def rcp (l : List (List UInt8)) : List UInt8 := rfold [] 0 l
def oth (l : List (List UInt8)) : List UInt8 := ofold [] 0 l
theorem rcp_snoc (p : List (List UInt8)) (x : List UInt8) : rcp (p ++ [x]) = rstep (rcp p) p.length x := by
  unfold rcp; rw [rfold_snoc]; simp
theorem oth_snoc (p : List (List UInt8)) (x : List UInt8) : oth (p ++ [x]) = ostep (oth p) p.length x := by
  unfold oth; rw [ofold_snoc]; simp
/-- behind a line that goes on there is a byte to take away -/
theorem oth_ne (p : List (List UInt8)) (hp : p ≠ []) (h : ∀ y ∈ p, opn y = true) : oth p ≠ [] := by
  rcases List.eq_nil_or_concat p with rfl | ⟨q, x, rfl⟩
  · exact absurd rfl hp
  · rw [List.concat_eq_append, oth_snoc]
    unfold ostep
    split
    · have := opn_ne (h x (by simp))
      simp [this]
    · simp

/-- sizes -/
def tot : List (List UInt8) → Nat
  | [] => 0
  | x :: r => x.length + 1 + tot r
theorem tot_app (p r : List (List UInt8)) : tot (p ++ r) = tot p + tot r := by
  induction p with
  | nil => simp [tot]
  | cons x p ih => simp only [List.cons_append, tot, ih]; omega
theorem untab_le (x : List UInt8) : (untab x).length ≤ x.length := by
  unfold untab Lib.trimPrefix
  split
  · simp
  · exact Nat.le_refl _
theorem trimL_le (x cs : List UInt8) : (Lib.trimLeftS x cs).length ≤ x.length := by
  unfold Lib.trimLeftS
  exact (List.dropWhile_sublist _).length_le
theorem trimR_le (x cs : List UInt8) : (Lib.trimRightS x cs).length ≤ x.length := by
  unfold Lib.trimRightS
  rw [List.length_reverse]
  have := (List.dropWhile_sublist (cs.contains ·) (l := x.reverse)).length_le
  simpa using this
theorem rcp_le : ∀ (p : List (List UInt8)), (rcp p).length ≤ tot p := by
  have key : ∀ (p : List (List UInt8)) (b : List UInt8) (n : Nat), (rfold b n p).length ≤ b.length + tot p := by
    intro p
    induction p with
    | nil => intro b n; simp [rfold]
    | cons x p ih =>
      intro b n
      have h1 := ih (rstep b n x) (n + 1)
      have h2 := untab_le x
      have h3 : (rstep b n x).length ≤ b.length + 1 + x.length := by
        unfold rstep
        split <;> simp <;> omega
      simp only [rfold, tot]
      omega
  intro p
  have := key p [] 0
  simpa [rcp] using this
theorem oth_le : ∀ (p : List (List UInt8)), (oth p).length ≤ tot p := by
  have key : ∀ (p : List (List UInt8)) (b : List UInt8) (n : Nat), (ofold b n p).length ≤ b.length + tot p := by
    intro p
    induction p with
    | nil => intro b n; simp [ofold]
    | cons x p ih =>
      intro b n
      have h1 := ih (ostep b n x) (n + 1)
      have h2 := trimL_le x blk
      have h3 : (ostep b n x).length ≤ b.length + 1 + x.length := by
        unfold ostep
        split
        · simp only [List.length_append]; omega
        · have h4 := trimR_le b.dropLast blk
          simp at h4 ⊢
          omega
      simp only [ofold, tot]
      omega
  intro p
  have := key p [] 0
  simpa [oth] using this

/-- what stands ahead of a comment: ahead: what was gone over, acc: what was told of it -/
def bareF : List UInt8 → List UInt8 → List UInt8 → List UInt8
  | _, acc, [] => acc
  | pre, acc, c :: r => if c = 35 then (if opn pre then bareF (pre ++ [c]) (acc.dropLast ++ [c]) r else acc) else bareF (pre ++ [c]) (acc ++ [c]) r
def bare (l : List UInt8) : List UInt8 := bareF [] [] l
theorem bareF_le : ∀ (r pre acc : List UInt8), (bareF pre acc r).length ≤ acc.length + r.length := by
  intro r
  induction r with
  | nil => intro pre acc; simp [bareF]
  | cons c r ih =>
    intro pre acc
    simp only [bareF]
    split
    · split
      · have h1 := ih (pre ++ [c]) (acc.dropLast ++ [c])
        simp at h1 ⊢
        omega
      · simp
    · have h1 := ih (pre ++ [c]) (acc ++ [c])
      simp at h1 ⊢
      omega
theorem bare_le (l : List UInt8) : (bare l).length ≤ l.length := by
  have := bareF_le l [] []
  simpa [bare] using this
theorem bareF_plain : ∀ (r pre acc : List UInt8), (∀ c ∈ r, ¬ c = 35) → bareF pre acc r = acc ++ r := by
  intro r
  induction r with
  | nil => intro pre acc _; simp [bareF]
  | cons c r ih =>
    intro pre acc h
    simp only [bareF]
    rw [if_neg (h c List.mem_cons_self), ih _ _ (fun d hd => h d (List.mem_cons_of_mem _ hd))]
    simp
theorem bare_plain (l : List UInt8) (h : ∀ c ∈ l, ¬ c = 35) : bare l = l := by simpa [bare] using bareF_plain l [] [] h

/-- is nothing but blanks there? -/
def isBlank (l : List UInt8) : Bool := (Lib.trimS l blk).isEmpty
/-- a line's kind and text, or those of a blank one -/
def kindP (k : Nat) (t : List UInt8) : Nat := if isBlank (if k = 2 then bare t else t) then 0 else k
def textP (k : Nat) (t : List UInt8) : List UInt8 := if isBlank (if k = 2 then bare t else t) then [] else t
theorem textP_le (k : Nat) (t : List UInt8) : (textP k t).length ≤ t.length := by
  unfold textP
  generalize isBlank _ = b
  cases b
  · exact Nat.le_refl _
  · exact Nat.zero_le _

/-- the first place of a byte 10, or the length -/
def fp : List UInt8 → Nat
  | [] => 0
  | c :: r => if c = 10 then 0 else fp r + 1
theorem fp_le : ∀ (l : List UInt8), fp l ≤ l.length
  | [] => Nat.le_refl _
  | c :: r => by simp only [fp, List.length_cons]; have := fp_le r; split <;> omega
/-- the lines of a text: acc: what stands of the line so far -/
def phG : List UInt8 → List UInt8 → List (List UInt8)
  | acc, [] => if acc = [] then [] else [acc]
  | acc, c :: r => if c = 10 then acc :: phG [] r else phG (acc ++ [c]) r
def phys (l : List UInt8) : List (List UInt8) := phG [] l
theorem phG_at : ∀ (l acc : List UInt8), phG acc l = if fp l < l.length then (acc ++ l.take (fp l)) :: phys (l.drop (fp l + 1)) else (if acc ++ l = [] then [] else [acc ++ l]) := by
  intro l
  induction l with
  | nil => intro acc; simp [phG, fp]
  | cons c r ih =>
    intro acc
    by_cases hc : c = 10
    · subst hc
      simp [phG, fp, phys]
    · simp only [phG, fp, if_neg hc, ih, List.length_cons]
      by_cases h : fp r < r.length
      · rw [if_pos h, if_pos (by omega)]
        simp
      · have h2 : ¬ fp r + 1 < r.length + 1 := by omega
        rw [if_neg h, if_neg h2]
        simp
theorem phys_at (l : List UInt8) (h : l ≠ []) : phys l = l.take (fp l) :: phys (l.drop (fp l + 1)) := by
  unfold phys
  rw [phG_at]
  by_cases hf : fp l < l.length
  · rw [if_pos hf]
    simp [phys]
  · have h1 := fp_le l
    have h2 : fp l = l.length := by omega
    rw [if_neg hf, if_neg (by simpa using h), h2, List.take_length, List.drop_eq_nil_of_le (by omega)]
    simp [phG]
theorem phys_nil : phys [] = [] := rfl
theorem phG_len : ∀ (l acc : List UInt8), tot (phG acc l) ≤ acc.length + l.length + 1 := by
  intro l
  induction l with
  | nil => intro acc; simp only [phG]; split <;> simp [tot]
  | cons c r ih =>
    intro acc
    simp only [phG]
    split
    · have := ih []
      simp [tot] at this ⊢
      omega
    · have := ih (acc ++ [c])
      simp at this ⊢
      omega
theorem phys_tot (l : List UInt8) : tot (phys l) ≤ l.length + 1 := by simpa [phys] using phG_len l []
theorem tot_len (p : List (List UInt8)) : p.length ≤ tot p := by
  induction p with
  | nil => exact Nat.le_refl _
  | cons x p ih => simp only [List.length_cons, tot]; omega
theorem tot_mem {p : List (List UInt8)} {x : List UInt8} (h : x ∈ p) : x.length ≤ tot p := by
  induction p with
  | nil => cases h
  | cons y p ih =>
    simp only [tot]
    rcases List.mem_cons.1 h with rfl | h
    · omega
    · have := ih h; omega
end Go.Proofs.YteleakbefebabaaDoor
