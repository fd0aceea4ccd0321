/- What the lexer tells of every text: plain. The tokens of a text are the same where other texts stand ahead of it and behind: plain. The tokens of a text that is joined with others: plain. -/
import Derived.Test.YtcemlhfodpelaaaGreatDoorLex
import Derived.Test.YtcemlhfodpelaaaGreatDoorZp
import Derived.Test.YtcemlhfodpelaaaGreatDoorPl
namespace Go.Proofs.YtcemlhfodpelaaaGreatDoor
open Go.RowKit

def inner : St → Prop
  | .db | .cm | .br | .bq => True
  | _ => False
/-- what is open agrees with the state -/
def OpOk (s : St) (op : List St) : Prop := match s with
  | .bw => op = []
  | .wd => op = []
  | _ => ∃ r, op = .wd :: r ∧ ∀ x ∈ r, inner x
structure LInv (T : Bs) (s : St) (l : LS) : Prop where
  fp : l.fr ≤ l.p
  pn : l.p ≤ T.length
  tkl : l.tk.length ≤ 5000
  tok : ∀ t ∈ l.tk, t.2 ≠ [] ∧ t.1 ≠ 4 ∧ t.2.length ≤ T.length
  op : OpOk s l.op
  wd : s = .wd → l.fr < l.p ∨ (l.p < T.length ∧ wend (T.getD l.p 0) = false)
  inn : inner s → l.fr < l.p
def mu (T : Bs) (s : St) (l : LS) : Nat := 3 * (T.length - l.p) + (match s with | .bw => 2 | .wd => if l.fr < l.p then 3 else 1 | _ => 3)
theorem piece_len (T : Bs) (l : LS) : (piece T l).length ≤ T.length := by simp [piece]; omega
theorem piece_ne {T : Bs} {l : LS} (h : l.fr < l.p) (hn : l.p ≤ T.length) : piece T l ≠ [] := by
  intro e
  have := congrArg List.length e
  simp [piece] at this
  omega
/-- what a step makes -/
def StepOk (T : Bs) (s : St) (l : LS) : Out → Prop
  | .next s' l' => LInv T s' l' ∧ mu T s' l' < mu T s l
  | .done l' => Good l'.tk ∧ l'.tk.length ≤ 5000 ∧ ∀ t ∈ l'.tk, t.2.length ≤ T.length
  | .bad n => n ≠ 0
  | .stuck => False
theorem tell_ok {T : Bs} {k : Nat} {l : LS} {s : St} {l0 : LS} (hl : l.fr < l.p) (hn : l.p ≤ T.length) (hk : l.tk.length ≤ 5000) (ht : ∀ t ∈ l.tk, t.2 ≠ [] ∧ t.1 ≠ 4 ∧ t.2.length ≤ T.length) (ho : l.op = []) (h4 : k ≠ 4) (hm : 3 * (T.length - l.p) + 2 < mu T s l0) : StepOk T s l0 (tellO T k l (.next .bw)) := by
  unfold tellO
  split
  · exact Nat.succ_ne_zero _
  · refine ⟨⟨Nat.le_of_lt hl, hn, by simp [tellS]; omega, fun t h => ?_, ho, (fun e => by cases e), fun e => e.elim⟩, hm⟩
    rcases List.mem_append.1 h with h | h
    · exact ht t h
    · obtain rfl := List.mem_singleton.1 h
      exact ⟨piece_ne hl hn, h4, piece_len T l⟩
theorem good_app : ∀ (l : List Tok), (∀ t ∈ l, t.2 ≠ [] ∧ t.1 ≠ 4) → Good (l ++ [(4, [])])
  | [], _ => .last
  | a :: r, h => .cons a _ (h a (List.mem_cons_self ..)).1 (h a (List.mem_cons_self ..)).2 (good_app r fun t ht => h t (List.mem_cons_of_mem _ ht))
theorem enter_ok {T : Bs} {k : Nat} {s here s' : St} {l : LS} (hI : LInv T here l) (hk : 0 < k) (hn : l.p + k ≤ T.length) (hs : inner s') (ho : OpOk s' (l.op ++ [here])) (h0 : l.p < T.length) (e : s = here) : StepOk T s l (enterO k s' here l) := by
  subst e
  unfold enterO
  split
  · exact Nat.succ_ne_zero _
  · refine ⟨⟨by have := hI.fp; show l.fr ≤ l.p + k; omega, hn, hI.tkl, hI.tok, ho, fun e => by subst e; exact hs.elim, fun _ => by have := hI.fp; show l.fr < l.p + k; omega⟩, ?_⟩
    have h3 : mu T s' ⟨l.fr, l.p + k, l.tk, l.op ++ [s]⟩ = 3 * (T.length - (l.p + k)) + 3 := by cases s' <;> first | exact hs.elim | rfl
    rw [h3]
    have h4 : 3 * (T.length - l.p) + 1 ≤ mu T s l := by
      unfold mu
      cases s <;> simp <;> first | omega | (split <;> omega)
    omega
theorem op_push {s s' : St} {op : List St} (h : OpOk s op) (hw : s = .wd ∨ inner s) (hs : inner s') : OpOk s' (op ++ [s]) := by
  have : ∃ r, op ++ [s] = .wd :: r ∧ ∀ x ∈ r, inner x := by
    rcases hw with rfl | hw
    · have h : op = [] := h
      rw [h]
      exact ⟨[], rfl, fun x hx => by simp at hx⟩
    · have h : ∃ r, op = .wd :: r ∧ ∀ x ∈ r, inner x := by cases s <;> first | exact hw.elim | exact h
      obtain ⟨r, rfl, hr⟩ := h
      refine ⟨r ++ [s], rfl, fun x hx => ?_⟩
      rcases List.mem_append.1 hx with hx | hx
      · exact hr x hx
      · rw [List.mem_singleton.1 hx]; exact hw
  cases s' <;> first | exact hs.elim | exact this
theorem leave_ok {T : Bs} {s : St} {l : LS} (hI : LInv T s l) (hs : inner s) (h0 : l.p < T.length) : StepOk T s l (leaveO l) := by
  have h : ∃ r, l.op = .wd :: r ∧ ∀ x ∈ r, inner x := by
    have := hI.op
    cases s <;> first | exact hs.elim | exact this
  obtain ⟨r, hr, hx⟩ := h
  have hfp := hI.inn hs
  have hmu : mu T s l = 3 * (T.length - l.p) + 3 := by cases s <;> first | exact hs.elim | rfl
  unfold leaveO
  rw [hr]
  rcases List.eq_nil_or_concat r with rfl | ⟨r', a, rfl⟩
  · refine ⟨⟨by show l.fr ≤ l.p + 1; omega, h0, hI.tkl, hI.tok, rfl, fun _ => .inl (by show l.fr < l.p + 1; omega), fun e => e.elim⟩, ?_⟩
    rw [hmu]
    have : mu T .wd ⟨l.fr, l.p + 1, l.tk, []⟩ ≤ 3 * (T.length - (l.p + 1)) + 3 := by unfold mu; simp; split <;> omega
    have e : ([St.wd].dropLast : List St) = [] := rfl
    show mu T .wd ⟨l.fr, l.p + 1, l.tk, [St.wd].dropLast⟩ < _
    rw [e]
    omega
  · have e1 : (St.wd :: (r' ++ [a])).getLast? = some a := by rw [← List.cons_append, List.getLast?_append]; simp
    have e2 : (St.wd :: (r' ++ [a])).dropLast = .wd :: r' := by rw [← List.cons_append, List.dropLast_append_of_ne_nil (by simp)]; simp
    rw [List.concat_eq_append] at *
    have ha : inner a := hx a (by simp)
    simp only [e1, e2]
    refine ⟨⟨by show l.fr ≤ l.p + 1; omega, h0, hI.tkl, hI.tok, ?_, fun e => by subst e; exact ha.elim, fun _ => by show l.fr < l.p + 1; omega⟩, ?_⟩
    · have : ∃ r, St.wd :: r' = .wd :: r ∧ ∀ x ∈ r, inner x := ⟨r', rfl, fun x h => hx x (List.mem_append.2 (.inl h))⟩
      cases a <;> first | exact ha.elim | exact this
    · rw [hmu]
      have : mu T a ⟨l.fr, l.p + 1, l.tk, St.wd :: r'⟩ = 3 * (T.length - (l.p + 1)) + 3 := by cases a <;> first | exact ha.elim | rfl
      rw [this]
      omega
theorem next_ok {T : Bs} {s : St} {l : LS} (hI : LInv T s l) (hs : s = .wd ∨ inner s) {p' : Nat} (h1 : l.p < p') (h2 : p' ≤ T.length) : StepOk T s l (.next s (atP l p')) := by
  have hfp := hI.fp
  refine ⟨⟨by show l.fr ≤ p'; omega, h2, hI.tkl, hI.tok, hI.op, fun _ => .inl (by show l.fr < p'; omega), fun _ => by show l.fr < p'; omega⟩, ?_⟩
  have h4 : 3 * (T.length - l.p) + 1 ≤ mu T s l := by
    unfold mu
    cases s <;> simp <;> first | omega | (split <;> omega)
  have h5 : mu T s (atP l p') ≤ 3 * (T.length - p') + 3 := by
    unfold mu
    cases s <;> simp <;> first | omega | (split <;> omega)
  omega
theorem cut_room {t : Bs} {c : UInt8} (h : cutB t c = true) : cutN t c < t.length := by
  unfold cutB at h
  unfold cutN
  unfold Lib.cut at *
  by_cases h0 : 0 ≤ Lib.index t [c]
  · have := Lib.index_room t [c] h0
    rw [if_pos h0, List.length_take]
    simp at this
    omega
  · rw [if_neg h0] at h
    cases h
theorem cut_le (t : Bs) (c : UInt8) : cutN t c ≤ t.length := by
  unfold cutN Lib.cut
  split
  · rw [List.length_take]; omega
  · exact Nat.le_refl _
theorem cut_pos {t : Bs} {c a : UInt8} (h : t[0]? = some a) (hc : a ≠ c) : 0 < cutN t c := by
  have h1 : 0 < t.length := (List.getElem?_eq_some_iff.1 h).1
  unfold cutN Lib.cut
  by_cases h0 : 0 ≤ Lib.index t [c]
  · rw [if_pos h0, List.length_take]
    have h2 : (Lib.index t [c]).toNat ≠ 0 := fun e => by
      have e0 : Lib.index t [c] = (0 : Nat) := by omega
      rw [Lib.index_one] at e0
      have := (Lib.indexByte_some e0).1
      rw [h] at this
      exact hc (Option.some.inj this)
    omega
  · rw [if_neg h0]; exact h1
theorem pass_ok {T : Bs} {s : St} {l : LS} (hI : LInv T s l) (hs : s = .wd ∨ inner s) (h0 : l.p < T.length) : StepOk T s l (passO T s l) := by
  unfold passO
  split
  · split
    · rename_i hc
      have := cut_room hc
      rw [List.length_drop] at this
      exact next_ok hI hs (by omega) (by omega)
    · exact Nat.succ_ne_zero _
  · split
    · exact next_ok hI hs (by omega) (by omega)
    · split
      · exact enter_ok hI (by omega) (by omega) trivial (op_push hI.op hs trivial) h0 rfl
      · split
        · exact enter_ok hI (by omega) (by omega) trivial (op_push hI.op hs trivial) h0 rfl
        · split
          · split
            · rename_i hf
              have : l.p + 1 < T.length := by simp [foll] at hf; exact hf.1
              exact enter_ok hI (by omega) (by omega) trivial (op_push hI.op hs trivial) h0 rfl
            · split
              · rename_i hf
                have : l.p + 1 < T.length := by simp [foll] at hf; exact hf.1
                exact enter_ok hI (by omega) (by omega) trivial (op_push hI.op hs trivial) h0 rfl
              · exact next_ok hI hs (by omega) (by omega)
          · exact next_ok hI hs (by omega) (by omega)
theorem stepB_ok {T : Bs} {l : LS} (hI : LInv T .bw l) : StepOk T .bw l (stepB T ⟨l.p, l.p, l.tk, l.op⟩) := by
  have hp := hI.pn
  have ho : l.op = [] := hI.op
  have hm : mu T .bw l = 3 * (T.length - l.p) + 2 := rfl
  unfold stepB
  dsimp only
  split
  · unfold tellO
    split
    · exact Nat.succ_ne_zero _
    · have e : piece T ⟨l.p, l.p, l.tk, l.op⟩ = [] := by simp [piece]
      have ht := hI.tkl
      rename_i h5k
      have h5k : ¬ l.tk.length = 5000 := h5k
      refine ⟨?_, by show (l.tk ++ [_]).length ≤ 5000; rw [List.length_append]; show l.tk.length + 1 ≤ 5000; omega, fun t h => ?_⟩
      · show Good (l.tk ++ [(4, piece T ⟨l.p, l.p, l.tk, l.op⟩)])
        rw [e]
        exact good_app _ fun t h => ⟨(hI.tok t h).1, (hI.tok t h).2.1⟩
      · rcases List.mem_append.1 h with h | h
        · exact (hI.tok t h).2.2
        · obtain rfl := List.mem_singleton.1 h
          exact piece_len _ _
  · have hlt : l.p < T.length := by omega
    have hmove : ∀ p', l.p < p' → p' ≤ T.length → StepOk T .bw l (.next .bw (atP ⟨l.p, l.p, l.tk, l.op⟩ p')) := fun p' h1 h2 => ⟨⟨by show l.p ≤ p'; omega, h2, hI.tkl, hI.tok, ho, (fun e => by cases e), fun e => e.elim⟩, by rw [hm]; show 3 * (T.length - p') + 2 < _; omega⟩
    have htell : ∀ k p', k ≠ 4 → l.p < p' → p' ≤ T.length → StepOk T .bw l (tellO T k (atP ⟨l.p, l.p, l.tk, l.op⟩ p') (.next .bw)) := fun k p' h4 h1 h2 => tell_ok h1 h2 hI.tkl hI.tok ho h4 (by rw [hm]; show 3 * (T.length - p') + 2 < _; omega)
    split
    · exact hmove _ (by omega) (by omega)
    · split
      · rename_i h35
        have h1 := cut_le (T.drop l.p) 10
        rw [List.length_drop] at h1
        have h2 : 0 < cutN (T.drop l.p) 10 := by
          refine cut_pos (a := 35) ?_ (by decide)
          rw [List.getElem?_drop, Nat.add_zero, List.getElem?_eq_getElem hlt]
          rw [List.getD_eq_getElem?_getD, List.getElem?_eq_getElem hlt] at h35
          exact congrArg some h35
        exact hmove _ (by omega) (by omega)
      · split
        · exact htell _ _ (by decide) (by omega) (by omega)
        · split
          · split
            · rename_i hf
              have : l.p + 1 < T.length := by simp [foll] at hf; exact hf.1
              exact htell _ _ (by decide) (by omega) (by omega)
            · exact htell _ _ (by decide) (by omega) (by omega)
          · split
            · exact htell _ _ (by decide) (by omega) (by omega)
            · rename_i a1 a2 a3 a4 a5
              refine ⟨⟨Nat.le_refl _, hp, hI.tkl, hI.tok, ho, fun _ => .inr ⟨hlt, ?_⟩, fun e => e.elim⟩, ?_⟩
              · simp only [not_or] at a1 a4 a5
                show wend (T.getD l.p 0) = false
                generalize T.getD l.p 0 = c at a1 a3 a4 a5 ⊢
                simp [wend, a1, a3, a4, a5]
              · rw [hm]
                show 3 * (T.length - l.p) + (if l.p < l.p then 3 else 1) < _
                rw [if_neg (by omega)]
                omega
theorem step_ok {T : Bs} {s : St} {l : LS} (hI : LInv T s l) : StepOk T s l (step T s l) := by
  have hp := hI.pn
  cases s with
  | bw => exact stepB_ok hI
  | wd =>
    rw [step]
    split
    · rename_i hw
      have hf : l.fr < l.p := by
        rcases hI.wd rfl with h | ⟨h1, h2⟩
        · exact h
        · rcases hw with h3 | h3
          · omega
          · rw [h2] at h3; cases h3
      exact tell_ok hf hp hI.tkl hI.tok hI.op (by decide) (by show _ < 3 * (T.length - l.p) + (if l.fr < l.p then 3 else 1); rw [if_pos hf]; omega)
    · rename_i hw
      simp only [not_or] at hw
      exact pass_ok hI (.inl rfl) (by omega)
  | db =>
    rw [step]
    split
    · exact Nat.succ_ne_zero _
    · split
      · exact leave_ok hI trivial (by omega)
      · split
        · exact next_ok hI (.inr trivial) (by omega) (by omega)
        · exact pass_ok hI (.inr trivial) (by omega)
  | cm =>
    rw [step]
    split
    · exact Nat.succ_ne_zero _
    · split
      · exact enter_ok hI (by omega) (by omega) trivial (op_push hI.op (.inr trivial) trivial) (by omega) rfl
      · split
        · exact leave_ok hI trivial (by omega)
        · exact pass_ok hI (.inr trivial) (by omega)
  | br =>
    rw [step]
    split
    · exact Nat.succ_ne_zero _
    · split
      · exact leave_ok hI trivial (by omega)
      · exact pass_ok hI (.inr trivial) (by omega)
  | bq =>
    rw [step]
    split
    · exact Nat.succ_ne_zero _
    · split
      · exact leave_ok hI trivial (by omega)
      · split
        · exact next_ok hI (.inr trivial) (by omega) (by omega)
        · exact next_ok hI (.inr trivial) (by omega) (by omega)
def FinOk (T : Bs) : Fin → Prop
  | .toks tk => Good tk ∧ tk.length ≤ 5000 ∧ ∀ t ∈ tk, t.2.length ≤ T.length
  | .err n => n ≠ 0
  | .none => False
theorem run_ok (T : Bs) : ∀ (k : Nat) (s : St) (l : LS), LInv T s l → mu T s l < k → FinOk T (run T k s l)
  | 0, _, _, _, h => by omega
  | k + 1, s, l, hI, h => by
    have hs := step_ok hI
    rw [run]
    cases he : step T s l with
    | next s' l' =>
      rw [he] at hs
      exact run_ok T k s' l' hs.1 (by have := hs.2; omega)
    | done l' =>
      rw [he] at hs
      exact hs
    | bad n =>
      rw [he] at hs
      exact hs
    | stuck =>
      rw [he] at hs
      exact hs.elim
def LexOk : Fin → Prop
  | .toks tk => Good tk ∧ tk.length ≤ 5000 ∧ ∀ t ∈ tk, t.2.length ≤ 65536
  | .err n => n ≠ 0
  | .none => False
/-- every text is told, or refused -/
theorem lex_ok (s : Bs) : LexOk (lexF s) := by
  unfold lexF
  by_cases hs : 65536 < s.length
  · rw [if_pos hs]; exact Nat.succ_ne_zero _
  · rw [if_neg hs]
    have hl := joined_le s
    have := run_ok (joinedB s) (3 * s.length + 10) .bw ⟨0, 0, [], []⟩ ⟨Nat.le_refl _, Nat.zero_le _, Nat.zero_le _, (fun t h => by cases h), rfl, (fun e => by cases e), fun e => e.elim⟩ (by show 3 * ((joinedB s).length - 0) + 2 < _; omega)
    cases hr : run (joinedB s) (3 * s.length + 10) .bw ⟨0, 0, [], []⟩ with
    | toks tk =>
      rw [hr] at this
      exact ⟨this.1, this.2.1, fun t h => by have := this.2.2 t h; omega⟩
    | err n =>
      rw [hr] at this
      exact this
    | none =>
      rw [hr] at this
      exact this
end Go.Proofs.YtcemlhfodpelaaaGreatDoor
namespace Go.Proofs.YtcemlhfodpelaaaGreatDoor
open Go.RowKit

/-- what may stand behind a text: nothing, or a blank, or a byte 10 -/
def Brk (R : Bs) : Prop := R = [] ∨ ∃ c r, R = c :: r ∧ (c = 32 ∨ c = 10)
abbrev joinT (P A R : Bs) : Bs := P ++ (A ++ R)
abbrev shL (P : Bs) (t0 : List Tok) (l : LS) : LS := ⟨P.length + l.fr, P.length + l.p, t0 ++ l.tk, l.op⟩
theorem getT {P A R : Bs} {p : Nat} (h : p < A.length) : (joinT P A R).getD (P.length + p) 0 = A.getD p 0 := by
  rw [List.getD_eq_getElem?_getD, List.getElem?_append_right (by omega), List.getElem?_append_left (by omega), show P.length + p - P.length = p by omega, List.getD_eq_getElem?_getD]
theorem lenT (P A R : Bs) : (joinT P A R).length = P.length + (A.length + R.length) := by simp
theorem dropT {P A R : Bs} {p : Nat} (h : p ≤ A.length) : (joinT P A R).drop (P.length + p) = A.drop p ++ R := by
  rw [List.drop_append, List.drop_eq_nil_of_le (by omega), List.nil_append, show P.length + p - P.length = p by omega, List.drop_append_of_le_length h]
theorem getR {P A R : Bs} : (joinT P A R).getD (P.length + A.length) 0 = R.getD 0 0 := by
  rw [List.getD_eq_getElem?_getD, List.getElem?_append_right (by omega), List.getElem?_append_right (by omega), show P.length + A.length - P.length - A.length = 0 by omega, List.getD_eq_getElem?_getD]
theorem follT {P A R : Bs} {p : Nat} {c : UInt8} (hb : Brk R) (h : p < A.length) (h1 : c ≠ 32) (h2 : c ≠ 10) : foll (joinT P A R) (P.length + p) c = foll A p c := by
  unfold foll
  rw [lenT]
  by_cases hp : p + 1 < A.length
  · rw [show P.length + p + 1 = P.length + (p + 1) by omega, getT hp]
    rw [decide_eq_true (by omega), decide_eq_true hp]
  · have e : p + 1 = A.length := by omega
    rw [show P.length + p + 1 = P.length + A.length by omega, getR, decide_eq_false hp]
    rcases hb with rfl | ⟨a, r, rfl, ha⟩
    · rw [decide_eq_false (by simp)]
      rfl
    · have : (((a :: r : Bs).getD 0 0) == c) = false := by
        show (a == c) = false
        rcases ha with rfl | rfl
        · exact beq_eq_false_iff_ne.2 fun e => h1 e.symm
        · exact beq_eq_false_iff_ne.2 fun e => h2 e.symm
      rw [this]
      simp
theorem pieceT {P A R : Bs} {t0 : List Tok} {l : LS} (h1 : l.fr ≤ l.p) (h2 : l.p ≤ A.length) : piece (joinT P A R) (shL P t0 l) = piece A l := by
  unfold piece
  rw [show P.length + l.p - (P.length + l.fr) = l.p - l.fr by omega]
  show ((joinT P A R).drop (P.length + l.fr)).take _ = _
  rw [dropT (by omega), List.take_append_of_le_length (by rw [List.length_drop]; omega)]
theorem idx_app (R : Bs) (c : UInt8) : ∀ (X : Bs), 0 ≤ Lib.indexByte X c → Lib.indexByte (X ++ R) c = Lib.indexByte X c
  | [], h => by simp [Lib.indexByte] at h
  | a :: X, h => by
    rw [List.cons_append]
    unfold Lib.indexByte at h ⊢
    by_cases ha : (a == c) = true
    · simp [ha]
    · have ih := idx_app R c X
      simp only [ha] at h ⊢
      have hx : 0 ≤ Lib.indexByte X c := by
        by_cases h1 : Lib.indexByte X c < 0
        · have := Lib.indexByte_ge X c
          have e : Lib.indexByte X c = -1 := by omega
          simp [e] at h
        · omega
      rw [ih hx]
theorem cut_more {X R : Bs} {c : UInt8} (h : cutB X c = true) : cutB (X ++ R) c = true ∧ cutN (X ++ R) c = cutN X c := by
  unfold cutB Lib.cut at h
  by_cases h0 : 0 ≤ Lib.index X [c]
  · obtain ⟨i, hi⟩ : ∃ i : Nat, Lib.index X [c] = i := ⟨(Lib.index X [c]).toNat, by omega⟩
    have hi' := hi
    rw [Lib.index_one] at hi
    have hs := Lib.indexByte_some hi
    have hx : i < X.length := (List.getElem?_eq_some_iff.1 hs.1).1
    have hn : Lib.index (X ++ R) [c] = i := by
      rw [Lib.index_one, idx_app _ _ _ (by omega)]
      exact hi
    unfold cutB cutN Lib.cut
    rw [hn, hi', if_pos (by omega), if_pos (by omega)]
    refine ⟨rfl, ?_⟩
    rw [List.length_take, List.length_take, List.length_append]
    omega
  · rw [if_neg h0] at h
    cases h
theorem enter_sim {P : Bs} {t0 : List Tok} {k : Nat} {st b s' : St} {l l' : LS} (h : enterO k st b l = .next s' l') : enterO k st b (shL P t0 l) = .next s' (shL P t0 l') := by
  unfold enterO at h ⊢
  split at h
  · cases h
  · rename_i hn
    cases h
    rw [if_neg hn]
    show Out.next st ⟨_, P.length + l.p + k, _, _⟩ = Out.next st ⟨_, P.length + (l.p + k), _, _⟩
    rw [Nat.add_assoc]
theorem leave_sim {P : Bs} {t0 : List Tok} {s' : St} {l l' : LS} (h : leaveO l = .next s' l') : leaveO (shL P t0 l) = .next s' (shL P t0 l') := by
  unfold leaveO at h ⊢
  split at h
  · cases h
  · rename_i s ho
    cases h
    dsimp only
    rw [ho]
    rfl
theorem tell_sim {P A R : Bs} {t0 : List Tok} {k : Nat} {l : LS} {s' : St} {l' : LS} (h1 : l.fr ≤ l.p) (h2 : l.p ≤ A.length) (h5 : t0.length + l.tk.length < 5000) (h : tellO A k l (.next .bw) = .next s' l') : tellO (joinT P A R) k (shL P t0 l) (.next .bw) = .next s' (shL P t0 l') := by
  unfold tellO at h ⊢
  split at h
  · cases h
  · cases h
    rw [if_neg (by show ¬ (t0 ++ l.tk).length = 5000; rw [List.length_append]; omega)]
    unfold tellS
    rw [pieceT h1 h2]
    simp
theorem pass_sim {P A R : Bs} {t0 : List Tok} {here s' : St} {l l' : LS} (hb : Brk R) (hp : l.p < A.length) (h92 : A.getD l.p 0 ≠ 92) (h : passO A here l = .next s' l') : passO (joinT P A R) here (shL P t0 l) = .next s' (shL P t0 l') := by
  unfold passO at h ⊢
  have g : (joinT P A R).getD (shL P t0 l).p 0 = A.getD l.p 0 := getT hp
  have d : (joinT P A R).drop ((shL P t0 l).p + 1) = A.drop (l.p + 1) ++ R := by
    show (joinT P A R).drop (P.length + l.p + 1) = _
    rw [Nat.add_assoc, dropT (by omega)]
  have f1 : foll (joinT P A R) (shL P t0 l).p 40 = foll A l.p 40 := follT hb hp (by decide) (by decide)
  have f2 : foll (joinT P A R) (shL P t0 l).p 123 = foll A l.p 123 := follT hb hp (by decide) (by decide)
  rw [g, d, f1, f2]
  by_cases c1 : A.getD l.p 0 = 39
  · rw [if_pos c1] at h ⊢
    split at h
    · rename_i hc
      cases h
      have := cut_more (R := R) hc
      rw [if_pos this.1, this.2]
      show Out.next here ⟨_, P.length + l.p + _, _, _⟩ = Out.next here ⟨_, P.length + (l.p + _), _, _⟩
      rw [Nat.add_assoc]
    · cases h
  · rw [if_neg c1, if_neg h92] at h ⊢
    by_cases c2 : A.getD l.p 0 = 34
    · rw [if_pos c2] at h ⊢
      exact enter_sim h
    · rw [if_neg c2] at h ⊢
      by_cases c3 : A.getD l.p 0 = 96
      · rw [if_pos c3] at h ⊢
        exact enter_sim h
      · rw [if_neg c3] at h ⊢
        by_cases c4 : A.getD l.p 0 = 36
        · rw [if_pos c4] at h ⊢
          split at h
          · rename_i hf
            rw [if_pos hf]
            exact enter_sim h
          · rename_i hf
            rw [if_neg hf]
            split at h
            · rename_i hf
              rw [if_pos hf]
              exact enter_sim h
            · rename_i hf
              rw [if_neg hf]
              cases h
              rfl
        · rw [if_neg c4] at h ⊢
          cases h
          rfl
theorem bw_sim {P A R : Bs} {t0 : List Tok} {s' : St} {l l' : LS} (hb : Brk R) (hp : l.p < A.length) (hf : l.fr = l.p) (h35 : A.getD l.p 0 ≠ 35) (h5 : t0.length + l.tk.length < 5000) (h : stepB A l = .next s' l') : stepB (joinT P A R) (shL P t0 l) = .next s' (shL P t0 l') := by
  unfold stepB at h ⊢
  have g : (joinT P A R).getD (shL P t0 l).p 0 = A.getD l.p 0 := getT hp
  have n : ¬ (shL P t0 l).p = (joinT P A R).length := by
    rw [lenT]
    show ¬ P.length + l.p = _
    omega
  rw [g, if_neg n]
  rw [if_neg (by omega)] at h
  split at h
  · rename_i c
    rw [if_pos c]
    cases h
    rfl
  · rename_i c
    rw [if_neg c]
    rw [if_neg h35]
    split at h
    · rename_i c
      rw [if_pos c]
      exact tell_sim (l := atP l (l.p + 1)) (by show l.fr ≤ l.p + 1; omega) (by show l.p + 1 ≤ _; omega) h5 h
    · rename_i c
      rw [if_neg c]
      split at h
      · rename_i c
        rw [if_pos c]
        have f : foll (joinT P A R) (shL P t0 l).p (A.getD l.p 0) = foll A l.p (A.getD l.p 0) := by
          refine follT hb hp ?_ ?_
          · intro e; rw [e] at c; simp at c
          · intro e; rw [e] at c; simp at c
        rw [f]
        split at h
        · rename_i hf2
          rw [if_pos hf2]
          have : l.p + 1 < A.length := by simp [foll] at hf2; exact hf2.1
          exact tell_sim (l := atP l (l.p + 1 + 1)) (by show l.fr ≤ l.p + 1 + 1; omega) (by show l.p + 1 + 1 ≤ _; omega) h5 h
        · rename_i hf2
          rw [if_neg hf2]
          exact tell_sim (l := atP l (l.p + 1)) (by show l.fr ≤ l.p + 1; omega) (by show l.p + 1 ≤ _; omega) h5 h
      · rename_i c
        rw [if_neg c]
        split at h
        · rename_i c
          rw [if_pos c]
          exact tell_sim (l := atP l (l.p + 1)) (by show l.fr ≤ l.p + 1; omega) (by show l.p + 1 ≤ _; omega) h5 h
        · rename_i c
          rw [if_neg c]
          cases h
          rfl
/-- a step over the text by itself is one over the joined text -/
theorem step_sim {P A R : Bs} {t0 : List Tok} {s s' : St} {l l' : LS} (hb : Brk R) (h35 : ∀ c ∈ A, c ≠ 35) (h92 : ∀ c ∈ A, c ≠ 92) (hI : LInv A s l) (h5 : t0.length + l.tk.length < 5000) (hne : s = .bw → l.p < A.length) (h : step A s l = .next s' l') : step (joinT P A R) s (shL P t0 l) = .next s' (shL P t0 l') := by
  have hpn := hI.pn
  have at92 : l.p < A.length → A.getD l.p 0 ≠ 92 := fun hp => h92 _ (by rw [List.getD_eq_getElem?_getD, List.getElem?_eq_getElem hp]; exact List.getElem_mem ..)
  have at35 : l.p < A.length → A.getD l.p 0 ≠ 35 := fun hp => h35 _ (by rw [List.getD_eq_getElem?_getD, List.getElem?_eq_getElem hp]; exact List.getElem_mem ..)
  have n : l.p < A.length → ¬ (shL P t0 l).p = (joinT P A R).length := fun hp => by
    rw [lenT]
    show ¬ P.length + l.p = _
    omega
  have g : l.p < A.length → (joinT P A R).getD (shL P t0 l).p 0 = A.getD l.p 0 := fun hp => getT hp
  cases s with
  | bw => exact bw_sim (l := ⟨l.p, l.p, l.tk, l.op⟩) hb (hne rfl) rfl (at35 (hne rfl)) h5 h
  | wd =>
    rw [step] at h ⊢
    by_cases hp : l.p < A.length
    · rw [g hp]
      by_cases hw : wend (A.getD l.p 0) = true
      · rw [if_pos (.inr hw)] at h ⊢
        exact tell_sim hI.fp hpn h5 h
      · rw [if_neg (fun e => e.elim (fun e => by omega) hw)] at h
        rw [if_neg (fun e => e.elim (n hp) hw)]
        exact pass_sim hb hp (at92 hp) h
    · have e : l.p = A.length := by omega
      rw [if_pos (.inl e)] at h
      have hc : (shL P t0 l).p = (joinT P A R).length ∨ wend ((joinT P A R).getD (shL P t0 l).p 0) = true := by
        show P.length + l.p = _ ∨ wend ((joinT P A R).getD (P.length + l.p) 0) = true
        rw [e, getR, lenT]
        rcases hb with rfl | ⟨a, r, rfl, ha⟩
        · exact .inl rfl
        · refine .inr ?_
          show wend a = true
          rcases ha with rfl | rfl <;> rfl
      rw [if_pos hc]
      exact tell_sim hI.fp hpn h5 h
  | db =>
    rw [step] at h ⊢
    by_cases hp : l.p < A.length
    · rw [g hp, if_neg (n hp)]
      rw [if_neg (by omega)] at h
      split at h
      · rename_i c; rw [if_pos c]; exact leave_sim h
      · rename_i c; rw [if_neg c]
        split at h
        · rename_i c; rw [if_pos c]; cases h; rfl
        · rename_i c; rw [if_neg c]; exact pass_sim hb hp (at92 hp) h
    · rw [if_pos (by omega)] at h
      cases h
  | cm =>
    rw [step] at h ⊢
    by_cases hp : l.p < A.length
    · rw [g hp, if_neg (n hp)]
      rw [if_neg (by omega)] at h
      split at h
      · rename_i c; rw [if_pos c]; exact enter_sim h
      · rename_i c; rw [if_neg c]
        split at h
        · rename_i c; rw [if_pos c]; exact leave_sim h
        · rename_i c; rw [if_neg c]; exact pass_sim hb hp (at92 hp) h
    · rw [if_pos (by omega)] at h
      cases h
  | br =>
    rw [step] at h ⊢
    by_cases hp : l.p < A.length
    · rw [g hp, if_neg (n hp)]
      rw [if_neg (by omega)] at h
      split at h
      · rename_i c; rw [if_pos c]; exact leave_sim h
      · rename_i c; rw [if_neg c]; exact pass_sim hb hp (at92 hp) h
    · rw [if_pos (by omega)] at h
      cases h
  | bq =>
    rw [step] at h ⊢
    by_cases hp : l.p < A.length
    · rw [g hp, if_neg (n hp)]
      rw [if_neg (by omega)] at h
      split at h
      · rename_i c; rw [if_pos c]; exact leave_sim h
      · rename_i c; rw [if_neg c]
        rw [if_neg (at92 hp)] at h ⊢
        cases h
        rfl
    · rw [if_pos (by omega)] at h
      cases h
end Go.Proofs.YtcemlhfodpelaaaGreatDoor
namespace Go.Proofs.YtcemlhfodpelaaaGreatDoor
open Go.RowKit

theorem tell_shape {A : Bs} {k : Nat} {l : LS} {s' : St} {l' : LS} (h : tellO A k l (.next .bw) = .next s' l') : s' = .bw ∧ l' = tellS A k l := by
  unfold tellO at h
  split at h
  · cases h
  · cases h; exact ⟨rfl, rfl⟩
theorem tell_nd {A : Bs} {k : Nat} {l : LS} {l' : LS} : tellO A k l (.next .bw) ≠ .done l' := by
  unfold tellO
  split
  · exact fun e => by cases e
  · exact fun e => by cases e
theorem enter_shape {k : Nat} {st b s' : St} {l l' : LS} (h : enterO k st b l = .next s' l') : s' = st ∧ l'.tk = l.tk ∧ l'.fr = l.fr := by
  unfold enterO at h
  split at h
  · cases h
  · cases h; exact ⟨rfl, rfl, rfl⟩
theorem enter_nd {k : Nat} {st b : St} {l l' : LS} : enterO k st b l ≠ .done l' := by
  unfold enterO
  split
  · exact fun e => by cases e
  · exact fun e => by cases e
theorem leave_shape {s' : St} {l l' : LS} (h : leaveO l = .next s' l') : s' ∈ l.op ∧ l'.tk = l.tk ∧ l'.fr = l.fr := by
  unfold leaveO at h
  split at h
  · cases h
  · rename_i s ho
    cases h
    exact ⟨List.mem_of_getLast? ho, rfl, rfl⟩
theorem leave_nd {l l' : LS} : leaveO l ≠ .done l' := by
  unfold leaveO
  split
  · exact fun e => by cases e
  · exact fun e => by cases e
theorem pass_shape {A : Bs} {here s' : St} {l l' : LS} (hh : here ≠ .bw) (h : passO A here l = .next s' l') : s' ≠ .bw ∧ l'.tk = l.tk ∧ l'.fr = l.fr := by
  have en : ∀ {k st}, st ≠ .bw → enterO k st here l = .next s' l' → s' ≠ .bw ∧ l'.tk = l.tk ∧ l'.fr = l.fr := fun hs e => by
    obtain ⟨h1, h2, h3⟩ := enter_shape e
    exact ⟨h1 ▸ hs, h2, h3⟩
  unfold passO at h
  split at h
  · split at h
    · cases h; exact ⟨hh, rfl, rfl⟩
    · cases h
  · split at h
    · cases h; exact ⟨hh, rfl, rfl⟩
    · split at h
      · exact en (fun e => by cases e) h
      · split at h
        · exact en (fun e => by cases e) h
        · split at h
          · split at h
            · exact en (fun e => by cases e) h
            · split at h
              · exact en (fun e => by cases e) h
              · cases h; exact ⟨hh, rfl, rfl⟩
          · cases h; exact ⟨hh, rfl, rfl⟩
theorem pass_nd {A : Bs} {here : St} {l l' : LS} : passO A here l ≠ .done l' := by
  unfold passO
  split
  · split <;> exact fun e => by cases e
  · split
    · exact fun e => by cases e
    · split
      · exact enter_nd
      · split
        · exact enter_nd
        · split
          · split
            · exact enter_nd
            · split
              · exact enter_nd
              · exact fun e => by cases e
          · exact fun e => by cases e
theorem step_done {A : Bs} {s : St} {l l' : LS} (h : step A s l = .done l') : s = .bw ∧ l.p = A.length ∧ l'.tk = l.tk ++ [(4, [])] := by
  cases s with
  | bw =>
    rw [step] at h
    unfold stepB at h
    dsimp only at h
    split at h
    · rename_i hp
      unfold tellO at h
      split at h
      · cases h
      · cases h
        refine ⟨rfl, hp, ?_⟩
        show l.tk ++ [(4, piece A ⟨l.p, l.p, l.tk, l.op⟩)] = _
        simp [piece]
    · split at h
      · cases h
      · split at h
        · cases h
        · split at h
          · exact absurd h tell_nd
          · split at h
            · split at h
              · exact absurd h tell_nd
              · exact absurd h tell_nd
            · split at h
              · exact absurd h tell_nd
              · cases h
  | wd =>
    rw [step] at h
    split at h
    · exact absurd h tell_nd
    · exact absurd h pass_nd
  | db =>
    rw [step] at h
    split at h
    · cases h
    · split at h
      · exact absurd h leave_nd
      · split at h
        · cases h
        · exact absurd h pass_nd
  | cm =>
    rw [step] at h
    split at h
    · cases h
    · split at h
      · exact absurd h enter_nd
      · split at h
        · exact absurd h leave_nd
        · exact absurd h pass_nd
  | br =>
    rw [step] at h
    split at h
    · cases h
    · split at h
      · exact absurd h leave_nd
      · exact absurd h pass_nd
  | bq =>
    rw [step] at h
    split at h
    · cases h
    · split at h
      · exact absurd h leave_nd
      · split at h
        · cases h
        · cases h
/-- how many tokens there are, and what stands behind the last one -/
structure LI2 (A : Bs) (s : St) (l : LS) : Prop where
  cb : s = .bw → l.tk.length ≤ l.p
  cw : s ≠ .bw → l.tk.length ≤ l.fr
  last : s = .bw → ∀ t k, l.tk = k ++ [t] → ∃ pre bl, A.take l.p = pre ++ t.2 ++ bl ∧ ∀ c ∈ bl, c = 32 ∨ c = 9
theorem take_piece {A : Bs} {l : LS} (h : l.fr ≤ l.p) : A.take l.p = A.take l.fr ++ piece A l := by
  unfold piece
  rw [← List.take_add, show l.fr + (l.p - l.fr) = l.p by omega]
theorem li_tell {A : Bs} {k : Nat} {l : LS} (h : l.fr < l.p) (hc : l.tk.length ≤ l.fr) : LI2 A .bw (tellS A k l) := by
  refine ⟨fun _ => by simp [tellS]; omega, fun e => absurd rfl e, fun _ t k' e => ?_⟩
  have e : l.tk ++ [(k, piece A l)] = k' ++ [t] := e
  obtain ⟨-, e2⟩ := List.append_inj' e rfl
  injection e2 with e2
  subst e2
  exact ⟨A.take l.fr, [], by rw [List.append_nil]; exact take_piece (Nat.le_of_lt h), fun c hc => by cases hc⟩
theorem li_keep {A : Bs} {s s' : St} {l l' : LS} (hs : s ≠ .bw) (h : LI2 A s l) (h1 : s' ≠ .bw) (h2 : l'.tk = l.tk) (h3 : l'.fr = l.fr) : LI2 A s' l' :=
  ⟨fun e => absurd e h1, fun _ => by rw [h2, h3]; exact h.cw hs, fun e => absurd e h1⟩
theorem step_li {A : Bs} {s s' : St} {l l' : LS} (h35 : ∀ c ∈ A, c ≠ 35) (hI : LInv A s l) (h2 : LI2 A s l) (h : step A s l = .next s' l') : LI2 A s' l' ∧ ∃ b, l'.tk = l.tk ++ b := by
  have hpn := hI.pn
  have keep : s ≠ .bw → s' ≠ .bw ∧ l'.tk = l.tk ∧ l'.fr = l.fr → LI2 A s' l' ∧ ∃ b, l'.tk = l.tk ++ b := fun hs ⟨a1, a2, a3⟩ => ⟨li_keep hs h2 a1 a2 a3, [], by rw [a2, List.append_nil]⟩
  have hop : inner s → ∀ x ∈ l.op, x ≠ .bw := fun hi => by
    have := hI.op
    have : ∃ r, l.op = .wd :: r ∧ ∀ x ∈ r, inner x := by cases s <;> first | exact hi.elim | exact this
    obtain ⟨r, hr, hx⟩ := this
    intro x hxm e
    rw [hr] at hxm
    rcases List.mem_cons.1 hxm with h0 | h0
    · rw [h0] at e; cases e
    · have := hx x h0; rw [e] at this; exact this.elim
  have leave : inner s → s ≠ .bw → leaveO l = .next s' l' → LI2 A s' l' ∧ ∃ b, l'.tk = l.tk ++ b := fun hi hs e => by
    obtain ⟨a1, a2, a3⟩ := leave_shape e
    exact keep hs ⟨hop hi _ a1, a2, a3⟩
  cases s with
  | bw =>
    rw [step] at h
    unfold stepB at h
    dsimp only at h
    have htell : ∀ k p', l.p < p' → tellO A k (atP ⟨l.p, l.p, l.tk, l.op⟩ p') (.next .bw) = .next s' l' → LI2 A s' l' ∧ ∃ b, l'.tk = l.tk ++ b := fun k p' hp e => by
      obtain ⟨rfl, rfl⟩ := tell_shape e
      exact ⟨li_tell hp (h2.cb rfl), _, rfl⟩
    split at h
    · unfold tellO at h
      split at h
      · cases h
      · cases h
    · rename_i hne
      have hp : l.p < A.length := by omega
      split at h
      · rename_i hb
        cases h
        refine ⟨⟨fun _ => by have := h2.cb rfl; show l.tk.length ≤ l.p + 1; omega, fun e => absurd rfl e, fun _ t k e => ?_⟩, [], by simp⟩
        obtain ⟨pre, bl, e1, e2⟩ := h2.last rfl t k e
        refine ⟨pre, bl ++ [A.getD l.p 0], ?_, fun c hc => ?_⟩
        · show A.take (l.p + 1) = _
          rw [List.take_add_one, e1, List.getElem?_eq_getElem hp, List.getD_eq_getElem?_getD, List.getElem?_eq_getElem hp]
          simp
        · rcases List.mem_append.1 hc with hc | hc
          · exact e2 c hc
          · rw [List.mem_singleton.1 hc]; exact hb
      · split at h
        · rename_i hc
          exact absurd hc (h35 _ (by rw [List.getD_eq_getElem?_getD, List.getElem?_eq_getElem hp]; exact List.getElem_mem ..))
        · split at h
          · exact htell _ _ (by omega) h
          · split at h
            · split at h
              · exact htell _ _ (by omega) h
              · exact htell _ _ (by omega) h
            · split at h
              · exact htell _ _ (by omega) h
              · cases h
                exact ⟨⟨(fun e => by cases e), fun _ => h2.cb rfl, fun e => by cases e⟩, [], by simp⟩
  | wd =>
    rw [step] at h
    split at h
    · rename_i hw
      have hf : l.fr < l.p := by
        rcases hI.wd rfl with h | ⟨h1, h2⟩
        · exact h
        · rcases hw with h3 | h3
          · omega
          · rw [h2] at h3; cases h3
      obtain ⟨rfl, rfl⟩ := tell_shape h
      exact ⟨li_tell hf (h2.cw fun e => by cases e), _, rfl⟩
    · exact keep (fun e => by cases e) (pass_shape (fun e => by cases e) h)
  | db =>
    rw [step] at h
    split at h
    · cases h
    · split at h
      · exact leave trivial (fun e => by cases e) h
      · split at h
        · cases h; exact keep (fun e => by cases e) ⟨(fun e => by cases e), rfl, rfl⟩
        · exact keep (fun e => by cases e) (pass_shape (fun e => by cases e) h)
  | cm =>
    rw [step] at h
    split at h
    · cases h
    · split at h
      · obtain ⟨a1, a2, a3⟩ := enter_shape h
        exact keep (fun e => by cases e) ⟨(fun e => by rw [a1] at e; cases e), a2, a3⟩
      · split at h
        · exact leave trivial (fun e => by cases e) h
        · exact keep (fun e => by cases e) (pass_shape (fun e => by cases e) h)
  | br =>
    rw [step] at h
    split at h
    · cases h
    · split at h
      · exact leave trivial (fun e => by cases e) h
      · exact keep (fun e => by cases e) (pass_shape (fun e => by cases e) h)
  | bq =>
    rw [step] at h
    split at h
    · cases h
    · split at h
      · exact leave trivial (fun e => by cases e) h
      · split at h
        · cases h; exact keep (fun e => by cases e) ⟨(fun e => by cases e), rfl, rfl⟩
        · cases h; exact keep (fun e => by cases e) ⟨(fun e => by cases e), rfl, rfl⟩
/-- where nothing is open, ahead of the place p of a text, these tokens being told -/
abbrev AtB (T : Bs) (p : Nat) (tk : List Tok) (F : Fin) : Prop := Runs T .bw ⟨p, p, tk, []⟩ F
theorem bw_fr {T : Bs} {f f' p : Nat} {tk : List Tok} {op : List St} {F : Fin} (h : Runs T .bw ⟨f, p, tk, op⟩ F) : Runs T .bw ⟨f', p, tk, op⟩ F := by
  obtain ⟨k, hk⟩ := h
  refine ⟨k, ?_⟩
  cases k with
  | zero => exact hk
  | succ k => exact hk
theorem part_run {A : Bs} (h35 : ∀ c ∈ A, c ≠ 35) (h92 : ∀ c ∈ A, c ≠ 92) : ∀ (k : Nat) (s : St) (l : LS) (tk : List Tok), LInv A s l → LI2 A s l → run A k s l = .toks tk →
    ∃ a, tk = l.tk ++ a ++ [(4, [])] ∧ (l.tk ++ a).length ≤ A.length ∧ (∀ t k, l.tk ++ a = k ++ [t] → ∃ pre bl, A = pre ++ t.2 ++ bl ∧ ∀ c ∈ bl, c = 32 ∨ c = 9) ∧
      ∀ P R t0 F, Brk R → t0.length + (l.tk ++ a).length < 5000 → AtB (joinT P A R) (P.length + A.length) (t0 ++ (l.tk ++ a)) F → Runs (joinT P A R) s (shL P t0 l) F
  | 0, _, _, _, _, _, h => by cases h
  | k + 1, s, l, tk, hI, h2, h => by
    rw [run] at h
    have hso := step_ok hI
    cases hs : step A s l with
    | next s' l' =>
      rw [hs] at h hso
      obtain ⟨h2', b, hb⟩ := step_li h35 hI h2 hs
      obtain ⟨a, e1, e2, e3, e4⟩ := part_run h35 h92 k s' l' tk hso.1 h2' h
      refine ⟨b ++ a, ?_, ?_, ?_, fun P R t0 F hR h5 hF => ?_⟩
      · rw [e1, hb]; simp
      · rw [← List.append_assoc, ← hb]; exact e2
      · rw [← List.append_assoc, ← hb]; exact e3
      · have eq : l.tk ++ (b ++ a) = l'.tk ++ a := by rw [hb]; simp
        rw [eq] at h5 hF
        have h6 : t0.length + l.tk.length < 5000 := by
          rw [hb] at h5
          simp only [List.length_append] at h5
          omega
        have hne : s = .bw → l.p < A.length := fun e => by
          subst e
          have hp := hI.pn
          refine Nat.lt_of_le_of_ne hp fun e => ?_
          rw [step] at hs
          unfold stepB at hs
          dsimp only at hs
          rw [if_pos e] at hs
          unfold tellO at hs
          split at hs <;> cases hs
        exact Runs.next (step_sim hR h35 h92 hI h6 hne hs) (e4 P R t0 F hR h5 hF)
    | done l' =>
      rw [hs] at h
      obtain ⟨rfl, hp, ht⟩ := step_done hs
      injection h with h
      refine ⟨[], by rw [← h, ht, List.append_nil], ?_, fun t k e => ?_, fun P R t0 F hR h5 hF => ?_⟩
      · rw [List.append_nil, ← hp]; exact h2.cb rfl
      · rw [List.append_nil] at e
        obtain ⟨pre, bl, e1, e2⟩ := h2.last rfl t k e
        rw [hp, List.take_length] at e1
        exact ⟨pre, bl, e1, e2⟩
      · have ho : l.op = [] := hI.op
        rw [List.append_nil] at hF
        show Runs _ .bw ⟨_, P.length + l.p, t0 ++ l.tk, l.op⟩ F
        rw [hp, ho]
        exact bw_fr hF
    | bad n =>
      rw [hs] at h
      cases h
    | stuck =>
      rw [hs] at h
      cases h
/-- a text whose tokens are these, wherever it stands -/
structure Pt (A : Bs) (a : List Tok) : Prop where
  cnt : a.length ≤ A.length
  last : ∀ t k, a = k ++ [t] → ∃ pre bl, A = pre ++ t.2 ++ bl ∧ ∀ c ∈ bl, c = 32 ∨ c = 9
  pr : ∀ t ∈ a, t.2 ≠ [] ∧ t.1 ≠ 4
  at_ : ∀ P R t0 F, Brk R → t0.length + a.length < 5000 → AtB (joinT P A R) (P.length + A.length) (t0 ++ a) F → AtB (joinT P A R) P.length t0 F
theorem good_pr : ∀ {a : List Tok}, Good (a ++ [(4, [])]) → ∀ t ∈ a, t.2 ≠ [] ∧ t.1 ≠ 4
  | [], _, t, h => by cases h
  | x :: r, hg, t, h => by
    have hg : Good (x :: (r ++ [(4, [])])) := hg
    generalize hz : r ++ [((4, []) : Tok)] = z at hg
    cases hg with
    | last => cases r <;> cases hz
    | cons _ _ h1 h2 h3 =>
      rcases List.mem_cons.1 h with rfl | h
      · exact ⟨h1, h2⟩
      · rw [← hz] at h3
        exact good_pr h3 t h
theorem pt_of {A : Bs} {tk : List Tok} (h35 : ∀ c ∈ A, c ≠ 35) (h92 : ∀ c ∈ A, c ≠ 92) (h : lexF A = .toks tk) : ∃ a, tk = a ++ [(4, [])] ∧ Pt A a := by
  have hok := lex_ok A
  rw [h] at hok
  unfold lexF at h
  split at h
  · cases h
  · rw [joined_no A h92] at h
    obtain ⟨a, e1, e2, e3, e4⟩ := part_run h35 h92 _ .bw ⟨0, 0, [], []⟩ tk ⟨Nat.le_refl _, Nat.zero_le _, Nat.zero_le _, (fun t h => by cases h), rfl, (fun e => by cases e), fun e => e.elim⟩ ⟨fun _ => Nat.le_refl _, (fun e => absurd rfl e), fun _ t k e => by cases k <;> cases e⟩ h
    refine ⟨a, e1, e2, e3, good_pr (by have := hok.1; rwa [e1] at this), fun P R t0 F hR h5 hF => ?_⟩
    have := e4 P R t0 F hR h5 (by simpa using hF)
    have : Runs (joinT P A R) .bw ⟨P.length + 0, P.length + 0, t0 ++ [], []⟩ F := this
    rw [List.append_nil] at this
    exact this
/-- a run that ends, ends so with whatever steps suffice -/
theorem run_more {T : Bs} : ∀ (k m : Nat) (s : St) (l : LS), run T k s l ≠ .none → k ≤ m → run T m s l = run T k s l
  | 0, _, _, _, h, _ => absurd rfl h
  | k + 1, 0, _, _, _, h => by omega
  | k + 1, m + 1, s, l, h, hm => by
    rw [run] at h ⊢
    rw [run]
    cases hs : step T s l with
    | next s' l' =>
      rw [hs] at h
      exact run_more k m s' l' h (by omega)
    | done l' => rfl
    | bad n => rfl
    | stuck => rfl
theorem lex_of_runs {T : Bs} {F : Fin} (h92 : ∀ c ∈ T, c ≠ 92) (hn : T.length ≤ 65536) (hF : F ≠ .none) (h : AtB T 0 [] F) : lexF T = F := by
  obtain ⟨k, hk⟩ := h
  have hok := lex_ok T
  unfold lexF at hok ⊢
  rw [if_neg (by omega), joined_no T h92] at hok ⊢
  have h1 : run T (3 * T.length + 10) .bw ⟨0, 0, [], []⟩ ≠ .none := fun e => by rw [e] at hok; exact hok.elim
  rcases Nat.le_total k (3 * T.length + 10) with hle | hle
  · rw [run_more k _ _ _ (by rw [hk]; exact hF) hle, hk]
  · rw [← run_more _ k _ _ h1 hle, hk]
end Go.Proofs.YtcemlhfodpelaaaGreatDoor
