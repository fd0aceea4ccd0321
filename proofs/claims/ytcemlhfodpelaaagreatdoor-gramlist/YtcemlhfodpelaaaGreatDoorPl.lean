/- What the lexer answers of $( within one another, of quoted texts, and of texts without quotes: plain. -/
import Derived.Test.YtcemlhfodpelaaaGreatDoorLex
namespace Go.Proofs.YtcemlhfodpelaaaGreatDoor
open Go.RowKit

def Runs (T : Bs) (s : St) (l : LS) (R : Fin) : Prop := ∃ k, run T k s l = R
theorem Runs.next {T : Bs} {s s' : St} {l l' : LS} {R : Fin} (h : step T s l = .next s' l') (r : Runs T s' l' R) : Runs T s l R := by
  obtain ⟨k, hk⟩ := r
  exact ⟨k + 1, (run_next h).trans hk⟩
theorem Runs.done {T : Bs} {s : St} {l l' : LS} (h : step T s l = .done l') : Runs T s l (.toks l'.tk) := ⟨1, run_done h⟩
theorem Runs.bad {T : Bs} {s : St} {l : LS} {n : Nat} (h : step T s l = .bad n) : Runs T s l (.err n) := ⟨1, run_bad h⟩

theorem index_no : ∀ (s : Bs), (∀ c ∈ s, c ≠ 92) → Lib.index s [92, 10] = -1
  | [], _ => rfl
  | a :: r, h => by
    unfold Lib.index
    have ha : (a == 92) = false := by simpa using h a (by simp)
    have ha' : ((92 : UInt8) == a) = false := by rw [BEq.comm]; exact ha
    rw [if_neg (by simp [List.isPrefixOf, ha'])]
    rw [index_no r fun c hc => h c (by simp [hc])]
    rfl
theorem joined_no (s : Bs) (h : ∀ c ∈ s, c ≠ 92) : joinedB s = s := by
  have hi := index_no s h
  unfold joinedB Lib.replaceAll Lib.replace
  rw [if_neg (by decide)]
  have : Lib.replaceNum s [92, 10] (-1) = 0 := by
    unfold Lib.replaceNum
    rw [if_pos (.inl (by decide))]
    unfold Lib.count Lib.countFrom
    rw [if_pos (by rw [hi]; rfl)]
  rw [this]
  rfl
def dp : Nat → Bs → Bs
  | 0, r => r
  | n + 1, r => 36 :: 40 :: dp n r
theorem dp_len : ∀ (n : Nat) (r : Bs), (dp n r).length = 2 * n + r.length
  | 0, r => by simp [dp]
  | n + 1, r => by simp only [dp, List.length_cons, dp_len n r]; omega
theorem dp_at : ∀ (n : Nat) (r : Bs) (j : Nat), j < n → (dp n r).getD (2 * j) 0 = 36 ∧ (dp n r).getD (2 * j + 1) 0 = 40
  | n + 1, r, 0, _ => ⟨rfl, rfl⟩
  | n + 1, r, j + 1, h => by
    have := dp_at n r j (by omega)
    rw [show 2 * (j + 1) = (2 * j + 1) + 1 by omega]
    simpa [dp] using this
theorem dp_behind : ∀ (n : Nat) (r : Bs) (i : Nat), (dp n r).getD (2 * n + i) 0 = r.getD i 0
  | 0, r, i => by simp [dp]
  | n + 1, r, i => by
    rw [show 2 * (n + 1) + i = (2 * n + i + 1) + 1 by omega]
    have := dp_behind n r i
    simpa [dp] using this
theorem dp_snoc : ∀ (n : Nat), dp n [] ++ [36, 40] = dp (n + 1) []
  | 0 => rfl
  | n + 1 => by
    show 36 :: 40 :: (dp n [] ++ [36, 40]) = 36 :: 40 :: dp (n + 1) []
    rw [dp_snoc n]
theorem dp_app : ∀ (n : Nat) (r : Bs), dp n [] ++ r = dp n r
  | 0, _ => rfl
  | n + 1, r => by
    show 36 :: 40 :: (dp n [] ++ r) = 36 :: 40 :: dp n r
    rw [dp_app n]
theorem dp_mem : ∀ (n : Nat) (r : Bs) (c : UInt8), c ∈ dp n r → c = 36 ∨ c = 40 ∨ c ∈ r
  | 0, _, _, h => .inr (.inr h)
  | n + 1, r, c, h => by
    simp only [dp, List.mem_cons] at h
    rcases h with h | h | h
    · exact .inl h
    · exact .inr (.inl h)
    · exact dp_mem n r c h
/-- $( opens -/
theorem dp_pass (n : Nat) (r : Bs) (j : Nat) (h : j < n) (s : St) (tk : List (Nat × Bs)) (op : List St) (fr : Nat) : passO (dp n r) s ⟨fr, 2 * j, tk, op⟩ = enterO 2 .cm s ⟨fr, 2 * j, tk, op⟩ := by
  obtain ⟨h1, h2⟩ := dp_at n r j h
  have hf : foll (dp n r) (2 * j) 40 = true := by
    unfold foll
    rw [h2, dp_len]
    simp
    omega
  unfold passO
  simp only [h1, hf, if_true]
  rfl
theorem dp_cm (n : Nat) (r : Bs) (j : Nat) (h : j < n) (op : List St) : step (dp n r) .cm ⟨0, 2 * j, [], op⟩ = enterO 2 .cm .cm ⟨0, 2 * j, [], op⟩ := by
  obtain ⟨h1, h2⟩ := dp_at n r j h
  dsimp only [step]
  rw [dp_len, if_neg (by omega), h1, if_neg (by decide), if_neg (by decide)]
  exact dp_pass n r j h .cm [] op 0
theorem dp_open (n : Nat) (r : Bs) (R : Fin) (m : Nat) (hm : m ≤ n) (hm60 : m ≤ 60) : ∀ (d j : Nat), j + d = m → 1 ≤ j → Runs (dp n r) .cm ⟨0, 2 * m, [], .wd :: List.replicate (m - 1) .cm⟩ R → Runs (dp n r) .cm ⟨0, 2 * j, [], .wd :: List.replicate (j - 1) .cm⟩ R
  | 0, j, hj, _, h => by
    have : j = m := by omega
    rw [this]; exact h
  | d + 1, j, hj, h1, h => by
    refine Runs.next (s' := .cm) (l' := ⟨0, 2 * (j + 1), [], .wd :: List.replicate (j + 1 - 1) .cm⟩) ?_ (dp_open n r R m hm hm60 d (j + 1) (by omega) (by omega) h)
    rw [dp_cm n r j (by omega)]
    unfold enterO
    rw [if_neg (by simp; omega)]
    have : (.wd :: List.replicate (j - 1) St.cm) ++ [St.cm] = .wd :: List.replicate (j + 1 - 1) St.cm := by
      rw [show j + 1 - 1 = (j - 1) + 1 by omega, List.replicate_succ']
      rfl
    rw [this]
    rfl
/-- the first one -/
theorem dp_first (n : Nat) (r : Bs) (R : Fin) (hn : 1 ≤ n) (h : Runs (dp n r) .cm ⟨0, 2 * 1, [], .wd :: List.replicate (1 - 1) .cm⟩ R) : Runs (dp n r) .bw ⟨0, 0, [], []⟩ R := by
  have hat := (dp_at n r 0 (by omega)).1
  have hlen := dp_len n r
  refine Runs.next (s' := .wd) (l' := ⟨0, 0, [], []⟩) ?_ (Runs.next (s' := .cm) ?_ h)
  · dsimp only [step, stepB]
    rw [if_neg (by omega)]
    simp only [Nat.mul_zero] at hat
    rw [hat]
    rfl
  · dsimp only [step]
    simp only [Nat.mul_zero] at hat
    rw [hat, if_neg (by rw [hlen]; simp [wend]; omega)]
    have := dp_pass n r 0 (by omega) .wd [] [] 0
    simp only [Nat.mul_zero] at this
    rw [this]
    rfl
/-- too deep -/
theorem deep_more (n : Nat) (r : Bs) (hn : 60 < n) : Runs (dp n r) .bw ⟨0, 0, [], []⟩ (.err 42) := by
  refine dp_first n r _ (by omega) (dp_open n r _ 60 (by omega) (by omega) 59 1 (by omega) (by omega) (Runs.bad ?_))
  rw [dp_cm n r 60 (by omega)]
  rfl
/-- not closed -/
theorem deep_open (n : Nat) (h1 : 1 ≤ n) (hn : n ≤ 60) : Runs (dp n []) .bw ⟨0, 0, [], []⟩ (.err 30) := by
  refine dp_first n [] _ h1 (dp_open n [] _ n (by omega) hn (n - 1) 1 (by omega) (by omega) (Runs.bad ?_))
  dsimp only [step]
  rw [dp_len, if_pos (by simp)]
theorem rep_at (m i : Nat) (h : i < m) : (List.replicate m (41 : UInt8)).getD i 0 = 41 := by
  rw [List.getD_eq_getElem?_getD, List.getElem?_replicate, if_pos h]; rfl
theorem deep_leave (n m : Nat) (R : Fin) (hn : n ≤ 60) : ∀ (d i : Nat), i + d + 1 = n → n ≤ m → Runs (dp n (List.replicate m 41)) .wd ⟨0, 2 * n + n, [], []⟩ R → Runs (dp n (List.replicate m 41)) .cm ⟨0, 2 * n + i, [], .wd :: List.replicate d .cm⟩ R
  | 0, i, hi, hm, h => by
    refine Runs.next (s' := .wd) (l' := ⟨0, 2 * n + n, [], []⟩) ?_ h
    dsimp only [step]
    rw [dp_len, dp_behind, rep_at m i (by omega), List.length_replicate, if_neg (by omega), if_neg (by decide), if_pos rfl]
    unfold leaveO
    simp only [List.replicate_zero, List.getLast?_singleton, List.dropLast_singleton]
    rw [show 2 * n + i + 1 = 2 * n + n by omega]
  | d + 1, i, hi, hm, h => by
    refine Runs.next (s' := .cm) (l' := ⟨0, 2 * n + (i + 1), [], .wd :: List.replicate d .cm⟩) ?_ (deep_leave n m R hn d (i + 1) (by omega) hm h)
    dsimp only [step]
    rw [dp_len, dp_behind, rep_at m i (by omega), List.length_replicate, if_neg (by omega), if_neg (by decide), if_pos rfl]
    unfold leaveO
    rw [List.replicate_succ']
    simp only [← List.cons_append, List.getLast?_concat, List.dropLast_concat]
    rw [show 2 * n + i + 1 = 2 * n + (i + 1) by omega]
/-- closed -/
theorem deep_closed (n : Nat) (h1 : 1 ≤ n) (hn : n ≤ 60) : Runs (dp n (List.replicate n 41)) .bw ⟨0, 0, [], []⟩ (.toks [(1, dp n (List.replicate n 41)), (4, [])]) := by
  have hlen := dp_len n (List.replicate n 41)
  rw [List.length_replicate] at hlen
  refine dp_first n _ _ h1 (dp_open n _ _ n (by omega) hn (n - 1) 1 (by omega) (by omega) ?_)
  have := deep_leave n n (.toks [(1, dp n (List.replicate n 41)), (4, [])]) hn (n - 1) 0 (by omega) (by omega)
  simp only [Nat.add_zero] at this
  refine this (Runs.next (s' := .bw) (l' := ⟨0, 2 * n + n, [(1, dp n (List.replicate n 41))], []⟩) ?_ (Runs.done (l' := ⟨2 * n + n, 2 * n + n, [(1, dp n (List.replicate n 41)), (4, [])], []⟩) ?_))
  · dsimp only [step]
    rw [if_pos (.inl hlen.symm)]
    unfold tellO
    rw [if_neg (by simp)]
    unfold tellS piece
    simp only [List.nil_append, List.drop_zero, Nat.sub_zero]
    rw [← hlen, List.take_length]
  · dsimp only [step, stepB]
    rw [if_pos hlen.symm]
    unfold tellO
    rw [if_neg (by simp)]
    unfold tellS piece
    simp
end Go.Proofs.YtcemlhfodpelaaaGreatDoor
