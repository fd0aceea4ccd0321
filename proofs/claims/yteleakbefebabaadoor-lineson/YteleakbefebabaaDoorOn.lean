/- Plain: a line of so many pieces, as the law LinesOn builds it, and what becomes of it. -/
import Derived.Test.YteleakbefebabaaDoorNext
namespace Go.Proofs.YteleakbefebabaaDoor

/-- a word that the law takes: no byte of it is a blank, a backslash or a sharp -/
structure Wd (x : List UInt8) : Prop where
  ne : x ≠ []
  ok : ∀ c ∈ x, ¬ c = 32 ∧ ¬ c = 9 ∧ ¬ c = 10 ∧ ¬ c = 92 ∧ ¬ c = 35
/-- one piece: its body, and whether it goes on -/
def body (x : List UInt8) (r : Bool) : List UInt8 := if r then 9 :: x else [32, 32] ++ x ++ [32, 9]
def piece (x : List UInt8) (r o : Bool) : List UInt8 := if o then body x r ++ [92] else body x r
/-- the pieces from i up to n -/
def pieces (x : List UInt8) (r : Bool) (n i : Nat) : List (List UInt8) := (List.range i).map fun j => piece x r (decide (j + 1 < n))
/-- the text that is wanted behind i pieces -/
def wantT (x : List UInt8) (r : Bool) : Nat → List UInt8
  | 0 => []
  | i + 1 => (if i = 0 then wantT x r i else wantT x r i ++ (if r then [92, 10] else [32])) ++ x
theorem pieces_succ (x : List UInt8) (r : Bool) (n i : Nat) : pieces x r n (i + 1) = pieces x r n i ++ [piece x r (decide (i + 1 < n))] := by
  simp [pieces, List.range_succ]
theorem pieces_len (x : List UInt8) (r : Bool) (n i : Nat) : (pieces x r n i).length = i := by simp [pieces]
theorem wd_last {x : List UInt8} (h : Wd x) : ∃ p c, x = p ++ [c] ∧ ¬ c = 92 ∧ blk.contains c = false := by
  rcases List.eq_nil_or_concat x with rfl | ⟨p, c, rfl⟩
  · exact absurd rfl h.ne
  · have hc := h.ok c (by simp)
    refine ⟨p, c, by simp, hc.2.2.2.1, ?_⟩
    simp [blk, hc.1, hc.2.1, hc.2.2.1]
theorem wd_first {x : List UInt8} (h : Wd x) : ∃ c r, x = c :: r ∧ blk.contains c = false ∧ ¬ c = 9 := by
  cases x with
  | nil => exact absurd rfl h.ne
  | cons c r =>
    have hc := h.ok c (by simp)
    exact ⟨c, r, rfl, by simp [blk, hc.1, hc.2.1, hc.2.2.1], hc.2.1⟩
theorem body_nb {x : List UInt8} (h : Wd x) (r : Bool) : nb (body x r) = 0 := by
  unfold body
  cases r with
  | true =>
    obtain ⟨p, c, rfl, hc, _⟩ := wd_last h
    exact nb_no (9 :: p) c hc
  | false =>
    have := nb_no ([32, 32] ++ x ++ [32]) 9 (by decide)
    simpa using this
theorem piece_open {x : List UInt8} (h : Wd x) (r o : Bool) : opn (piece x r o) = o := by
  unfold piece opn
  cases o with
  | true => simp only [if_true]; rw [nb_yes, body_nb h]; rfl
  | false => simp only [Bool.false_eq_true, if_false]; rw [body_nb h]; rfl
/-- all pieces are one logical line -/
theorem pieces_jn {x : List UInt8} (h : Wd x) (r : Bool) (n : Nat) (hn : 1 ≤ n) : jn (pieces x r n n) = pieces x r n n := by
  obtain ⟨m, rfl⟩ : ∃ m, n = m + 1 := ⟨n - 1, by omega⟩
  rw [pieces_succ, jn_end _ [] _ (fun y hy => ?_) (by rw [piece_open h]; simp)]
  obtain ⟨j, hj, rfl⟩ := List.mem_map.1 hy
  rw [piece_open h]
  have := List.mem_range.1 hj
  simp; omega
theorem untab_body {x : List UInt8} (o : Bool) : untab (piece x true o) = if o then x ++ [92] else x := by
  cases o <;> simp [untab, piece, body, Lib.trimPrefix, Lib.hasPrefix]
theorem want_one (x : List UInt8) (r : Bool) : wantT x r 1 = x := by simp [wantT]
theorem want_next (x : List UInt8) (r : Bool) (i : Nat) (h : 0 < i) : wantT x r (i + 1) = wantT x r i ++ (if r then [92, 10] else [32]) ++ x := by
  rw [wantT, if_neg (by omega)]
/-- a recipe's text, behind i pieces: what is wanted, and a backslash where the last piece goes on -/
theorem rcp_pieces {x : List UInt8} (n : Nat) : ∀ i, i + 1 ≤ n → rcp (pieces x true n (i + 1)) = wantT x true (i + 1) ++ (if i + 1 < n then [92] else [])
  | 0, _ => by
    rw [pieces_succ, rcp_snoc, pieces_len, want_one]
    simp only [rstep, untab_body, if_true]
    by_cases h : 0 + 1 < n
    · simp [h, pieces, rcp, rfold]
    · simp [h, pieces, rcp, rfold]
  | i + 1, hi => by
    rw [pieces_succ, rcp_snoc, pieces_len, rcp_pieces n i (by omega), want_next x true (i + 1) (by omega)]
    simp only [rstep, untab_body]
    have h2 : i + 1 < n := by omega
    rw [if_neg (by omega), if_pos h2]
    by_cases h : i + 1 + 1 < n
    · simp [h]
    · simp [h]
theorem trimR_word {x : List UInt8} (h : Wd x) (p : List UInt8) : Lib.trimRightS (p ++ x ++ [32, 9]) blk = p ++ x := by
  obtain ⟨q, c, rfl, _, hc⟩ := wd_last h
  unfold Lib.trimRightS
  simp only [List.reverse_append, List.reverse_cons, List.reverse_nil, List.nil_append, List.append_assoc, List.cons_append]
  rw [List.dropWhile_cons_of_pos (by decide), List.dropWhile_cons_of_pos (by decide), List.dropWhile_cons_of_neg (by simp only [hc]; decide)]
  simp
theorem trimL_body {x : List UInt8} (h : Wd x) (e : List UInt8) : Lib.trimLeftS ([32, 32] ++ x ++ e) blk = x ++ e := by
  obtain ⟨c, r, rfl, hc, _⟩ := wd_first h
  unfold Lib.trimLeftS
  simp only [List.cons_append, List.nil_append]
  rw [List.dropWhile_cons_of_pos (by decide), List.dropWhile_cons_of_pos (by decide), List.dropWhile_cons_of_neg (by simp only [hc]; decide)]
/-- the text of a line that is no recipe's, behind i pieces -/
theorem oth_pieces {x : List UInt8} (h : Wd x) (n : Nat) : ∀ i, i + 1 ≤ n → oth (pieces x false n (i + 1)) = [32, 32] ++ wantT x false (i + 1) ++ [32, 9] ++ (if i + 1 < n then [92] else [])
  | 0, _ => by
    rw [pieces_succ, oth_snoc, pieces_len, want_one]
    simp only [ostep, if_true]
    by_cases h : 0 + 1 < n
    · simp [h, pieces, oth, ofold, piece, body]
    · simp [h, pieces, oth, ofold, piece, body]
  | i + 1, hi => by
    rw [pieces_succ, oth_snoc, pieces_len, oth_pieces h n i (by omega), want_next x false (i + 1) (by omega)]
    have h2 : i + 1 < n := by omega
    unfold ostep
    rw [if_neg (by omega), if_pos h2, List.dropLast_concat]
    have hw : ∃ p, wantT x false (i + 1) = p ++ x := ⟨_, rfl⟩
    obtain ⟨p, hp⟩ := hw
    rw [hp, ← List.append_assoc [32, 32] p x, trimR_word h]
    have hl : ∀ o : Bool, Lib.trimLeftS (piece x false o) blk = x ++ [32, 9] ++ (if o then [92] else []) := fun o => by
      unfold piece body
      cases o with
      | true => simp only [if_true, Bool.false_eq_true, if_false]; rw [show [32, 32] ++ x ++ [32, 9] ++ [92] = [32, 32] ++ x ++ ([32, 9] ++ [92]) by simp, trimL_body h]; simp
      | false => simp only [Bool.false_eq_true, if_false]; rw [show [32, 32] ++ x ++ [32, 9] = [32, 32] ++ x ++ [32, 9] from rfl, trimL_body h]; simp
    rw [hl]
    by_cases h3 : i + 1 + 1 < n
    · simp [h3]
    · simp [h3]
theorem want_mem {x : List UInt8} (h : Wd x) (r : Bool) : ∀ i c, c ∈ wantT x r i → ¬ c = 35
  | 0, c, hc => by simp [wantT] at hc
  | i + 1, c, hc => by
    unfold wantT at hc
    rcases List.mem_append.1 hc with hc | hc
    · split at hc
      · exact want_mem h r i c hc
      · rcases List.mem_append.1 hc with hc | hc
        · exact want_mem h r i c hc
        · cases r with
          | true => simp at hc; rcases hc with rfl | rfl <;> decide
          | false => simp at hc; rcases hc with rfl; decide
    · exact (h.ok c hc).2.2.2.2
theorem mem_drop {l : List UInt8} {p : UInt8 → Bool} {c : UInt8} (h : c ∈ l) (hc : p c = false) : c ∈ l.dropWhile p := by
  rw [← List.takeWhile_append_dropWhile (p := p) (l := l)] at h
  rcases List.mem_append.1 h with h | h
  · have := List.all_eq_true.1 (List.all_takeWhile (p := p) (l := l)) c h
    rw [hc] at this; cases this
  · exact h
theorem not_blank {p x q : List UInt8} (h : Wd x) : isBlank (p ++ x ++ q) = false := by
  obtain ⟨c, r, rfl, hc, _⟩ := wd_first h
  have h1 : c ∈ p ++ (c :: r) ++ q := by simp
  unfold isBlank Lib.trimS Lib.trimLeftS Lib.trimRightS
  have h2 : c ∈ ((p ++ (c :: r) ++ q).reverse.dropWhile (blk.contains ·)).reverse := List.mem_reverse.2 (mem_drop (List.mem_reverse.2 h1) hc)
  have h3 := mem_drop (p := (blk.contains ·)) h2 hc
  generalize (((p ++ (c :: r) ++ q).reverse.dropWhile (blk.contains ·)).reverse).dropWhile (blk.contains ·) = z at h3
  cases z with
  | nil => cases h3
  | cons _ _ => rfl
theorem want_end (x : List UInt8) (r : Bool) (i : Nat) : ∃ p, wantT x r (i + 1) = p ++ x := ⟨_, rfl⟩

/-- what Next tells of all the pieces -/
theorem on_rec {x : List UInt8} (h : Wd x) (n : Nat) (hn : 1 ≤ n) : rawK (pieces x true n n) 0 = 1 ∧ rawT (pieces x true n n) 0 = wantT x true n := by
  obtain ⟨m, rfl⟩ : ∃ m, n = m + 1 := ⟨n - 1, by omega⟩
  have hr : isRec ((pieces x true (m + 1) (m + 1)).getD 0 []) = true := by
    have : (pieces x true (m + 1) (m + 1)).getD 0 [] = piece x true (decide (0 + 1 < m + 1)) := by
      rw [List.getD_eq_getElem?_getD, pieces, List.getElem?_map, List.getElem?_range (by omega)]; rfl
    rw [this]
    unfold piece body
    cases (decide (0 + 1 < m + 1)) <;> rfl
  unfold rawK rawT
  rw [hr]
  simp only [if_true, List.drop_zero]
  rw [pieces_jn h true (m + 1) hn, rcp_pieces (m + 1) m (Nat.le_refl _)]
  simp
theorem on_oth {x : List UInt8} (h : Wd x) (n : Nat) (hn : 1 ≤ n) : rawK (pieces x false n n) 0 = 2 ∧ rawT (pieces x false n n) 0 = [32, 32] ++ wantT x false n ++ [32, 9] := by
  obtain ⟨m, rfl⟩ : ∃ m, n = m + 1 := ⟨n - 1, by omega⟩
  have hr : isRec ((pieces x false (m + 1) (m + 1)).getD 0 []) = false := by
    have : (pieces x false (m + 1) (m + 1)).getD 0 [] = piece x false (decide (0 + 1 < m + 1)) := by
      rw [List.getD_eq_getElem?_getD, pieces, List.getElem?_map, List.getElem?_range (by omega)]; rfl
    rw [this]
    unfold piece body
    cases (decide (0 + 1 < m + 1)) <;> rfl
  unfold rawK rawT
  rw [hr]
  simp only [Bool.false_eq_true, if_false, List.drop_zero]
  rw [pieces_jn h false (m + 1) hn, oth_pieces h (m + 1) m (Nat.le_refl _)]
  simp
/-- the text that Next is to tell -/
def onT (x : List UInt8) (r : Bool) (n : Nat) : List UInt8 := if r then wantT x r n else [32, 32] ++ wantT x r n ++ [32, 9]
theorem on_all {x : List UInt8} (h : Wd x) (r : Bool) (n : Nat) (hn : 1 ≤ n) : kindP (rawK (pieces x r n n) 0) (rawT (pieces x r n n) 0) = (if r then 1 else 2) ∧ textP (rawK (pieces x r n n) 0) (rawT (pieces x r n n) 0) = onT x r n ∧ (jn ((pieces x r n n).drop 0)).length = n := by
  have hj : (jn ((pieces x r n n).drop 0)).length = n := by rw [List.drop_zero, pieces_jn h r n hn, pieces_len]
  obtain ⟨m, rfl⟩ : ∃ m, n = m + 1 := ⟨n - 1, by omega⟩
  obtain ⟨p, hp⟩ := want_end x r m
  cases r with
  | true =>
    obtain ⟨h1, h2⟩ := on_rec h (m + 1) hn
    have hb : isBlank (wantT x true (m + 1)) = false := by
      have := not_blank (p := p) (q := []) h
      rw [List.append_nil, ← hp] at this; exact this
    rw [h1, h2]
    refine ⟨?_, ?_, hj⟩
    · unfold kindP; rw [if_neg (show ¬ (1 : Nat) = 2 by decide), hb]; rfl
    · unfold textP onT; rw [if_neg (show ¬ (1 : Nat) = 2 by decide), hb]; rfl
  | false =>
    obtain ⟨h1, h2⟩ := on_oth h (m + 1) hn
    have hbr : bare ([32, 32] ++ wantT x false (m + 1) ++ [32, 9]) = [32, 32] ++ wantT x false (m + 1) ++ [32, 9] := by
      refine bare_plain _ fun c hc => ?_
      rcases List.mem_append.1 hc with hc | hc
      · rcases List.mem_append.1 hc with hc | hc
        · simp at hc; rw [hc]; decide
        · exact want_mem h false _ c hc
      · simp at hc; rcases hc with rfl | rfl <;> decide
    have hb : isBlank ([32, 32] ++ wantT x false (m + 1) ++ [32, 9]) = false := by
      have := not_blank (p := [32, 32] ++ p) (q := [32, 9]) h
      rw [List.append_assoc [32, 32] p x, ← hp] at this; exact this
    rw [h1, h2]
    refine ⟨?_, ?_, hj⟩
    · unfold kindP; rw [if_pos rfl, hbr, hb]; rfl
    · unfold textP onT; rw [if_pos rfl, hbr, hb]; rfl
/-- sizes -/
theorem body_len (x : List UInt8) (r o : Bool) : (piece x r o).length ≤ x.length + 5 := by
  unfold piece body
  cases o <;> cases r <;> simp
theorem want_len (x : List UInt8) (r : Bool) : ∀ i, (wantT x r i).length ≤ i * (x.length + 2)
  | 0 => by simp [wantT]
  | i + 1 => by
    have := want_len x r i
    rw [Nat.succ_mul]
    unfold wantT
    cases r <;> split <;> simp <;> omega
theorem tot_pieces (x : List UInt8) (r : Bool) (n : Nat) : ∀ i, tot (pieces x r n i) ≤ i * (x.length + 6)
  | 0 => by simp [pieces, tot]
  | i + 1 => by
    have h1 := tot_pieces x r n i
    have h2 := body_len x r (decide (i + 1 < n))
    rw [pieces_succ, tot_app, Nat.succ_mul]
    simp only [tot]
    omega
end Go.Proofs.YteleakbefebabaaDoor
