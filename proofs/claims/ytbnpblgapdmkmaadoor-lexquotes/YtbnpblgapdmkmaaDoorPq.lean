/- What the lexer answers of quoted texts, and of texts without quotes: plain. -/
import Derived.Test.YtbnpblgapdmkmaaDoorPl
namespace Go.Proofs.YtbnpblgapdmkmaaDoor
open Go.RowKit

def nq (c : UInt8) : Prop := c ≠ 39 ∧ c ≠ 34 ∧ c ≠ 92 ∧ c ≠ 36 ∧ c ≠ 96
theorem pass_nq (T : Bs) (s : St) (l : LS) (h : nq (T.getD l.p 0)) : passO T s l = .next s (atP l (l.p + 1)) := by
  obtain ⟨h1, h2, h3, h4, h5⟩ := h
  unfold passO
  rw [if_neg h1, if_neg h3, if_neg h2, if_neg h5, if_neg h4]
theorem at_behind (a b : Bs) (i : Nat) : (a ++ b).getD (a.length + i) 0 = b.getD i 0 := by
  rw [List.getD_eq_getElem?_getD, List.getElem?_append_right (by omega), Nat.add_sub_cancel_left, ← List.getD_eq_getElem?_getD]
theorem at_ahead (a b : Bs) (i : Nat) (h : i < a.length) : (a ++ b).getD i 0 = a.getD i 0 := by
  rw [List.getD_eq_getElem?_getD, List.getElem?_append_left h, ← List.getD_eq_getElem?_getD]
theorem getD_mem (s : Bs) (i : Nat) (h : i < s.length) : s.getD i 0 ∈ s := by
  rw [List.getD_eq_getElem?_getD, List.getElem?_eq_getElem h]; exact List.getElem_mem h
theorem index_cons (a c : UInt8) (r : Bs) : Lib.index (a :: r) [c] = if a = c then 0 else if Lib.index r [c] == -1 then -1 else Lib.index r [c] + 1 := by
  rw [Lib.index]
  by_cases h : a = c
  · subst h; simp
  · have : (c == a) = false := by simpa using fun e => h e.symm
    rw [if_neg (by simp [List.isPrefixOf, this]), if_neg h]
theorem cut_cons (a c : UInt8) (r : Bs) (h : a ≠ c) : cutN (a :: r) c = cutN r c + 1 ∧ cutB (a :: r) c = cutB r c := by
  have hc := index_cons a c r
  rw [if_neg h] at hc
  have hge := Lib.index_ge r [c]
  unfold cutN cutB Lib.cut
  by_cases h0 : Lib.index r [c] = -1
  · rw [h0] at hc ⊢
    rw [hc]
    simp
  · have h1 : ¬ (Lib.index r [c] == -1) = true := by simpa using h0
    rw [if_neg h1] at hc
    rw [hc, if_pos (by omega), if_pos (by omega)]
    refine ⟨?_, rfl⟩
    rw [show (Lib.index r [c] + 1).toNat = (Lib.index r [c]).toNat + 1 by omega, List.take_succ_cons, List.length_cons]
theorem cut_hit (c : UInt8) (r : Bs) : cutN (c :: r) c = 0 ∧ cutB (c :: r) c = true := by
  have hc := index_cons c c r
  rw [if_pos rfl] at hc
  unfold cutN cutB Lib.cut
  rw [hc]
  exact ⟨rfl, rfl⟩
theorem cut_at (c : UInt8) (r : Bs) : ∀ (s : Bs), (∀ x ∈ s, x ≠ c) → cutN (s ++ c :: r) c = s.length ∧ cutB (s ++ c :: r) c = true
  | [], _ => cut_hit c r
  | a :: s, h => by
    have ih := cut_at c r s fun x hx => h x (by simp [hx])
    have := cut_cons a c (s ++ c :: r) (h a (by simp))
    exact ⟨this.1.trans (by rw [ih.1]; rfl), this.2.trans ih.2⟩
theorem drop_cons (T : Bs) (p : Nat) (h : p < T.length) : T.drop p = T.getD p 0 :: T.drop (p + 1) := by
  rw [List.drop_eq_getElem_cons h, List.getD_eq_getElem?_getD, List.getElem?_eq_getElem h]; rfl
theorem wend_no (c : UInt8) (c1 : ¬ (c = 32 ∨ c = 9)) (c3 : ¬ c = 10) (c4 : ¬ (c = 59 ∨ c = 38 ∨ c = 124 ∨ c = 62)) (c5 : ¬ (c = 40 ∨ c = 41 ∨ c = 60)) : wend c = false := by
  simp only [not_or] at c1 c4 c5
  simp [wend, c1, c3, c4, c5]
/-- bytes without quotes -/
theorem free (T : Bs) (b : Nat) (h : ∀ i, b ≤ i → nq (T.getD i 0)) : ∀ (d p : Nat), b ≤ p → p ≤ T.length → T.length - p ≤ d →
    (∀ fr tk, List.length tk + 2 * (T.length - p) + 2 ≤ 5000 → ∃ l', 1 ≤ List.length l' ∧ Runs T .bw ⟨fr, p, tk, []⟩ (.toks (tk ++ l'))) ∧
    (∀ fr tk, List.length tk + 2 * (T.length - p) + 3 ≤ 5000 → ∃ l', 1 ≤ List.length l' ∧ Runs T .wd ⟨fr, p, tk, []⟩ (.toks (tk ++ l'))) := by
  intro d
  induction d with
  | zero =>
    intro p hb hp hd
    have hpe : p = T.length := by omega
    have H : ∀ fr tk, List.length tk + 2 * (T.length - p) + 2 ≤ 5000 → ∃ l', 1 ≤ List.length l' ∧ Runs T .bw ⟨fr, p, tk, []⟩ (.toks (tk ++ l')) := by
      intro fr tk ht
      refine ⟨[(4, piece T ⟨p, p, tk, []⟩)], by simp, Runs.done (l' := tellS T 4 ⟨p, p, tk, []⟩) ?_⟩
      dsimp only [step, stepB]
      rw [if_pos hpe, tellO, if_neg (by simp only; omega)]
    refine ⟨H, fun fr tk ht => ?_⟩
    obtain ⟨l', hn', hr⟩ := H fr (tk ++ [(1, piece T ⟨fr, p, tk, []⟩)]) (by simp only [List.length_append, List.length_cons, List.length_nil]; omega)
    refine ⟨(1, piece T ⟨fr, p, tk, []⟩) :: l', by simp, Runs.next (s' := .bw) (l' := ⟨fr, p, tk ++ [(1, piece T ⟨fr, p, tk, []⟩)], []⟩) ?_ (by simpa using hr)⟩
    dsimp only [step]
    rw [if_pos (.inl hpe), tellO, if_neg (by simp only; omega)]
    rfl
  | succ d ih =>
    intro p hb hp hd
    have H : ∀ fr tk, List.length tk + 2 * (T.length - p) + 2 ≤ 5000 → ∃ l', 1 ≤ List.length l' ∧ Runs T .bw ⟨fr, p, tk, []⟩ (.toks (tk ++ l')) := by
      intro fr tk ht
      by_cases hpe : p = T.length
      · exact (ih p hb hp (by omega)).1 fr tk ht
      have hn := h p hb
      -- a token of so many bytes
      have tok : ∀ k q, p < q → q ≤ T.length → step T .bw ⟨fr, p, tk, []⟩ = tellO T k (atP ⟨p, p, tk, []⟩ q) (.next .bw) → ∃ l', 1 ≤ List.length l' ∧ Runs T .bw ⟨fr, p, tk, []⟩ (.toks (tk ++ l')) := by
        intro k q h1 h2 hs
        obtain ⟨l', hn', hr⟩ := (ih q (by omega) h2 (by omega)).1 p (tk ++ [(k, piece T ⟨p, q, tk, []⟩)]) (by simp only [List.length_append, List.length_cons, List.length_nil]; omega)
        refine ⟨(k, piece T ⟨p, q, tk, []⟩) :: l', by simp, Runs.next (s' := .bw) (l' := ⟨p, q, tk ++ [(k, piece T ⟨p, q, tk, []⟩)], []⟩) ?_ (by simpa using hr)⟩
        rw [hs, tellO, if_neg (by simp only; omega)]
        rfl
      have skip : ∀ q, p < q → q ≤ T.length → step T .bw ⟨fr, p, tk, []⟩ = .next .bw ⟨p, q, tk, []⟩ → ∃ l', 1 ≤ List.length l' ∧ Runs T .bw ⟨fr, p, tk, []⟩ (.toks (tk ++ l')) := by
        intro q h1 h2 hs
        obtain ⟨l', hn', hr⟩ := (ih q (by omega) h2 (by omega)).1 p tk (by omega)
        exact ⟨l', hn', Runs.next hs hr⟩
      have hstep : step T .bw ⟨fr, p, tk, []⟩ = stepB T ⟨p, p, tk, []⟩ := rfl
      unfold stepB at hstep
      rw [if_neg (by exact hpe)] at hstep
      dsimp only at hstep
      by_cases c1 : T.getD p 0 = 32 ∨ T.getD p 0 = 9
      · rw [if_pos c1] at hstep
        exact skip (p + 1) (by omega) (by omega) hstep
      rw [if_neg c1] at hstep
      by_cases c2 : T.getD p 0 = 35
      · rw [if_pos c2] at hstep
        have hd1 := drop_cons T p (by omega)
        have hc := (cut_cons (T.getD p 0) 10 (T.drop (p + 1)) (by rw [c2]; decide)).1
        rw [← hd1] at hc
        have hle := cutN_le (T.drop p) 10
        rw [List.length_drop] at hle
        exact skip (p + cutN (T.drop p) 10) (by omega) (by omega) hstep
      rw [if_neg c2] at hstep
      by_cases c3 : T.getD p 0 = 10
      · rw [if_pos c3] at hstep
        exact tok 3 (p + 1) (by omega) (by omega) hstep
      rw [if_neg c3] at hstep
      by_cases c4 : T.getD p 0 = 59 ∨ T.getD p 0 = 38 ∨ T.getD p 0 = 124 ∨ T.getD p 0 = 62
      · rw [if_pos c4] at hstep
        cases hf : foll T p (T.getD p 0) with
        | true =>
          rw [hf, if_pos rfl] at hstep
          unfold foll at hf
          simp only [Bool.and_eq_true, decide_eq_true_eq] at hf
          exact tok 2 (p + 1 + 1) (by omega) (by omega) hstep
        | false =>
          rw [hf, if_neg (by decide)] at hstep
          exact tok 2 (p + 1) (by omega) (by omega) hstep
      rw [if_neg c4] at hstep
      by_cases c5 : T.getD p 0 = 40 ∨ T.getD p 0 = 41 ∨ T.getD p 0 = 60
      · rw [if_pos c5] at hstep
        exact tok 2 (p + 1) (by omega) (by omega) hstep
      rw [if_neg c5] at hstep
      obtain ⟨l', hn', hr⟩ := (ih (p + 1) (by omega) (by omega) (by omega)).2 p tk (by omega)
      refine ⟨l', hn', Runs.next hstep (Runs.next (s' := .wd) (l' := ⟨p, p + 1, tk, []⟩) ?_ hr)⟩
      dsimp only [step]
      rw [if_neg, pass_nq T _ _ (by exact hn)]
      rintro (e | e)
      · exact hpe e
      · rw [wend_no _ c1 c3 c4 c5] at e; cases e
    refine ⟨H, fun fr tk ht => ?_⟩
    by_cases hw : p = T.length ∨ wend (T.getD p 0) = true
    · obtain ⟨l', hn', hr⟩ := H fr (tk ++ [(1, piece T ⟨fr, p, tk, []⟩)]) (by simp only [List.length_append, List.length_cons, List.length_nil]; omega)
      refine ⟨(1, piece T ⟨fr, p, tk, []⟩) :: l', by simp, Runs.next (s' := .bw) (l' := ⟨fr, p, tk ++ [(1, piece T ⟨fr, p, tk, []⟩)], []⟩) ?_ (by simpa using hr)⟩
      dsimp only [step]
      rw [if_pos hw, tellO, if_neg (by simp only; omega)]
      rfl
    · have hpe : ¬ p = T.length := fun e => hw (.inl e)
      obtain ⟨l', hn', hr⟩ := (ih (p + 1) (by omega) (by omega) (by omega)).2 fr tk (by omega)
      refine ⟨l', hn', Runs.next (s' := .wd) (l' := ⟨fr, p + 1, tk, []⟩) ?_ hr⟩
      dsimp only [step]
      rw [if_neg hw, pass_nq T _ _ (by exact h p hb)]
/-- a quoted text between two words -/
def qT (q : UInt8) (s : Bs) : Bs := 120 :: 32 :: q :: (s ++ [q, 32, 121])
theorem qT_len (q : UInt8) (s : Bs) : (qT q s).length = s.length + 6 := by simp [qT]
theorem qT_in (q : UInt8) (s : Bs) (i : Nat) (h : i < s.length) : (qT q s).getD (3 + i) 0 = s.getD i 0 := by
  have : (qT q s) = [120, 32, q] ++ (s ++ [q, 32, 121]) := rfl
  rw [this, show 3 + i = [120, 32, q].length + i from rfl, at_behind, at_ahead _ _ _ h]
theorem qT_end (q : UInt8) (s : Bs) (i : Nat) : (qT q s).getD (s.length + 3 + i) 0 = [q, 32, 121].getD i 0 := by
  have : (qT q s) = (120 :: 32 :: q :: s) ++ [q, 32, 121] := rfl
  rw [this, show s.length + 3 + i = (120 :: 32 :: q :: s).length + i from rfl, at_behind]
/-- up to the quote -/
theorem qT_first (q : UInt8) (hq : q = 39 ∨ q = 34) (s : Bs) (R : Fin) (h : Runs (qT q s) .wd ⟨2, 2, [(1, [120])], []⟩ R) : Runs (qT q s) .bw ⟨0, 0, [], []⟩ R := by
  have hl := qT_len q s
  refine Runs.next (s' := .wd) (l' := ⟨0, 0, [], []⟩) ?_ (Runs.next (s' := .wd) (l' := ⟨0, 1, [], []⟩) ?_ (Runs.next (s' := .bw) (l' := ⟨0, 1, [(1, [120])], []⟩) ?_ (Runs.next (s' := .bw) (l' := ⟨1, 2, [(1, [120])], []⟩) ?_ (Runs.next (s' := .wd) (l' := ⟨2, 2, [(1, [120])], []⟩) ?_ h))))
  · dsimp only [step, stepB]; rw [if_neg (by omega)]; rfl
  · dsimp only [step]; rw [if_neg (by rw [hl]; simp [qT, wend])]; rfl
  · dsimp only [step]; rw [if_pos (.inr rfl)]; rfl
  · dsimp only [step, stepB]; rw [if_neg (by omega)]; rfl
  · dsimp only [step, stepB]; rw [if_neg (by omega)]
    rcases hq with rfl | rfl <;> rfl
def qP (q : UInt8) (s : Bs) : Bs := q :: (s ++ [q])
/-- behind the quote -/
theorem qT_last (q : UInt8) (s : Bs) : Runs (qT q s) .wd ⟨2, s.length + 4, [(1, [120])], []⟩ (.toks [(1, [120]), (1, qP q s), (1, [121]), (4, [])]) := by
  have hl := qT_len q s
  have e1 := qT_end q s 1
  have e2 := qT_end q s 2
  have e1' : (qT q s).getD (s.length + 4) 0 = 32 := e1
  have e2' : (qT q s).getD (s.length + 5) 0 = 121 := e2
  have hp1 : piece (qT q s) ⟨2, s.length + 4, [(1, [120])], []⟩ = qP q s := by
    unfold piece qT qP
    have : (q :: (s ++ [q, 32, 121])) = (q :: (s ++ [q])) ++ [32, 121] := by simp
    show (q :: (s ++ [q, 32, 121])).take (s.length + 4 - 2) = _
    rw [this, List.take_left' (by simp)]
  have hd2 : (qT q s).drop (s.length + 5) = [121] := by
    have : (qT q s) = (120 :: 32 :: q :: (s ++ [q, 32])) ++ [121] := by simp [qT]
    rw [this, List.drop_left' (by simp)]
  refine Runs.next (s' := .bw) (l' := ⟨2, s.length + 4, [(1, [120]), (1, qP q s)], []⟩) ?_ (Runs.next (s' := .bw) (l' := ⟨s.length + 4, s.length + 5, [(1, [120]), (1, qP q s)], []⟩) ?_ (Runs.next (s' := .wd) (l' := ⟨s.length + 5, s.length + 5, [(1, [120]), (1, qP q s)], []⟩) ?_
    (Runs.next (s' := .wd) (l' := ⟨s.length + 5, s.length + 6, [(1, [120]), (1, qP q s)], []⟩) ?_ (Runs.next (s' := .bw) (l' := ⟨s.length + 5, s.length + 6, [(1, [120]), (1, qP q s), (1, [121])], []⟩) ?_ (Runs.done (l' := ⟨s.length + 6, s.length + 6, [(1, [120]), (1, qP q s), (1, [121]), (4, [])], []⟩) ?_)))))
  · dsimp only [step]
    rw [e1', if_pos (.inr rfl), tellO, if_neg (by simp), tellS, hp1]
    rfl
  · dsimp only [step, stepB]
    rw [if_neg (by omega), e1']
    rfl
  · dsimp only [step, stepB]
    rw [if_neg (by omega), e2']
    rfl
  · dsimp only [step]
    rw [e2', if_neg (by rw [hl]; simp [wend]), pass_nq _ _ _ (by dsimp only; rw [e2']; simp [nq])]
  · dsimp only [step]
    rw [if_pos (.inl hl.symm), tellO, if_neg (by simp), tellS, piece]
    dsimp only
    rw [hd2, show s.length + 6 - (s.length + 5) = 1 by omega]
    rfl
  · dsimp only [step, stepB]
    rw [if_pos hl.symm, tellO, if_neg (by simp), tellS, piece]
    simp
theorem quote_single (s : Bs) (h : ∀ c ∈ s, nq c) : Runs (qT 39 s) .bw ⟨0, 0, [], []⟩ (.toks [(1, [120]), (1, qP 39 s), (1, [121]), (4, [])]) := by
  have hl := qT_len 39 s
  refine qT_first 39 (.inl rfl) s _ (Runs.next (s' := .wd) (l' := ⟨2, s.length + 4, [(1, [120])], []⟩) ?_ (qT_last 39 s))
  have hc := cut_at 39 [32, 121] s fun x hx => (h x hx).1
  dsimp only [step]
  rw [if_neg (by rw [hl]; simp [qT, wend])]
  unfold passO
  have hd : (qT 39 s).drop (2 + 1) = s ++ 39 :: [32, 121] := rfl
  dsimp only
  rw [hd, if_pos (by rfl), hc.2, if_pos rfl, hc.1]
  rw [show 2 + (s.length + 2) = s.length + 4 by omega]
theorem db_free (s : Bs) (h : ∀ c ∈ s, nq c) (R : Fin) : ∀ (d i : Nat), i + d = s.length → Runs (qT 34 s) .db ⟨2, 3 + s.length, [(1, [120])], [.wd]⟩ R → Runs (qT 34 s) .db ⟨2, 3 + i, [(1, [120])], [.wd]⟩ R
  | 0, i, hi, hr => by
    have : i = s.length := by omega
    rw [this]; exact hr
  | d + 1, i, hi, hr => by
    refine Runs.next (s' := .db) (l' := ⟨2, 3 + (i + 1), [(1, [120])], [.wd]⟩) ?_ (db_free s h R d (i + 1) (by omega) hr)
    have hl := qT_len 34 s
    have hn := h _ (getD_mem s i (by omega))
    rw [← qT_in 34 s i (by omega)] at hn
    dsimp only [step]
    rw [if_neg (by omega), if_neg hn.2.1, if_neg hn.1, pass_nq _ _ _ (by exact hn)]
    rfl
theorem quote_double (s : Bs) (h : ∀ c ∈ s, nq c) : Runs (qT 34 s) .bw ⟨0, 0, [], []⟩ (.toks [(1, [120]), (1, qP 34 s), (1, [121]), (4, [])]) := by
  have hl := qT_len 34 s
  refine qT_first 34 (.inr rfl) s _ (Runs.next (s' := .db) (l' := ⟨2, 3 + 0, [(1, [120])], [.wd]⟩) ?_ (db_free s h _ s.length 0 (by omega) (Runs.next (s' := .wd) (l' := ⟨2, s.length + 4, [(1, [120])], []⟩) ?_ (qT_last 34 s))))
  · dsimp only [step]
    rw [if_neg (by rw [hl]; simp [qT, wend])]
    rfl
  · have e0 : (qT 34 s).getD (3 + s.length) 0 = 34 := by have := qT_end 34 s 0; rw [Nat.add_zero, Nat.add_comm] at this; exact this
    dsimp only [step]
    rw [if_neg (by omega), e0, if_pos rfl]
    unfold leaveO
    simp only [List.getLast?_singleton, List.dropLast_singleton]
    rw [show 3 + s.length + 1 = s.length + 4 by omega]
/-- a text with a comment -/
def cT (s : Bs) : Bs := 120 :: 32 :: 39 :: 97 :: 39 :: 32 :: 35 :: s
theorem quote_comment (s : Bs) (h : ∀ c ∈ s, nq c) (hs : s.length ≤ 2000) : ∃ l', Runs (cT s) .bw ⟨0, 0, [], []⟩ (.toks ([(1, [120]), (1, [39, 97, 39])] ++ l')) ∧ 1 ≤ l'.length := by
  have hl : (cT s).length = s.length + 7 := by simp [cT]
  have hf : ∀ i, 6 ≤ i → nq ((cT s).getD i 0) := by
    intro i hi
    obtain ⟨j, rfl⟩ : ∃ j, i = 6 + j := ⟨i - 6, by omega⟩
    have e : (cT s).getD (6 + j) 0 = (35 :: s).getD j 0 := at_behind ([120, 32, 39, 97, 39, 32] : Bs) (35 :: s) j
    rw [e]
    by_cases hj : j < (35 :: s).length
    · have := getD_mem (35 :: s) j hj
      simp only [List.mem_cons] at this
      rcases this with h1 | h1
      · rw [h1]; simp [nq]
      · exact h _ h1
    · rw [List.getD_eq_getElem?_getD, List.getElem?_eq_none (by omega)]; simp [nq]
  obtain ⟨l', hn', hr⟩ := (free (cT s) 6 hf _ 6 (by omega) (by omega) (Nat.le_refl _)).1 5 [(1, [120]), (1, [39, 97, 39])] (by simp only [List.length_cons, List.length_nil]; omega)
  refine ⟨l', ?_, hn'⟩
  · refine Runs.next (s' := .wd) (l' := ⟨0, 0, [], []⟩) ?_ (Runs.next (s' := .wd) (l' := ⟨0, 1, [], []⟩) ?_ (Runs.next (s' := .bw) (l' := ⟨0, 1, [(1, [120])], []⟩) ?_ (Runs.next (s' := .bw) (l' := ⟨1, 2, [(1, [120])], []⟩) ?_ (Runs.next (s' := .wd) (l' := ⟨2, 2, [(1, [120])], []⟩) ?_ (Runs.next (s' := .wd) (l' := ⟨2, 5, [(1, [120])], []⟩) ?_ (Runs.next (s' := .bw) (l' := ⟨2, 5, [(1, [120]), (1, [39, 97, 39])], []⟩) ?_ (Runs.next (s' := .bw) (l' := ⟨5, 6, [(1, [120]), (1, [39, 97, 39])], []⟩) ?_ hr)))))))
    · dsimp only [step, stepB]; rw [if_neg (by omega)]; rfl
    · dsimp only [step]; rw [if_neg (by rw [hl]; simp [cT, wend])]; rfl
    · dsimp only [step]; rw [if_pos (.inr rfl)]; rfl
    · dsimp only [step, stepB]; rw [if_neg (by omega)]; rfl
    · dsimp only [step, stepB]; rw [if_neg (by omega)]; rfl
    · dsimp only [step]
      rw [if_neg (by rw [hl]; simp [cT, wend])]
      have hc := cut_at 39 (32 :: 35 :: s) [97] (by simp)
      unfold passO
      have hd : (cT s).drop (2 + 1) = [97] ++ 39 :: (32 :: 35 :: s) := rfl
      dsimp only
      rw [hd, if_pos (by rfl), hc.2, if_pos rfl, hc.1]
      rfl
    · dsimp only [step]; rw [if_pos (.inr rfl)]; rfl
    · dsimp only [step, stepB]; rw [if_neg (by omega)]; rfl
end Go.Proofs.YtbnpblgapdmkmaaDoor
