/- Lists within compounds, as the law builds them: plain. What GramAround lays: rows and commands, in memory. What GramAround lays, written out. -/
import Derived.Test.YtcemlhfodpelaaaGreatDoorZg
import Derived.Deep.CutRange
namespace Go.Proofs.YtcemlhfodpelaaaGreatDoor
open Go.RowKit

/-- a list that is right: its tokens and its commands -/
structure Lst (a : List Tok) (la : List Cd) : Prop where
  pr : Pr a
  short : a.length ≤ 2000
  ne : la ≠ []
  lon : ∃ s', lonP 100000 (Sx a 0 0) = .ok la s' ∧ tx s'.ts = []
theorem Lst.at_ {a : List Tok} {la : List Cd} (h : Lst a la) (W : List Tok) (hs : skipL W = W) (he : endsB (tx W) = true) (n M : Nat) (hn : 30000 ≤ n) (hM : 1 ≤ M) :
    ∃ M', 1 ≤ M' ∧ listP n ⟨a ++ nlT :: W, 1, M⟩ = .ok (aloneP la) ⟨W, 1, M'⟩ ∧ lonP n ⟨a ++ nlT :: W, 1, M⟩ = .ok la ⟨W, 1, M'⟩ := by
  obtain ⟨s', h1, h2⟩ := h.lon
  let B : Beh := ⟨nlT, W, 1, M, rfl, by decide, by decide, by decide, by decide⟩
  have hln : ln (Sx a 0 0) ≤ 2001 := by have := h.short; simp [ln]; omega
  have h1' : lonP n (Sx a 0 0) = .ok la s' := by
    rw [← h1]
    exact lon_fuel (by omega) (by omega)
  obtain ⟨dm', -, e1, e2⟩ := lon_end (B := B) rfl hs he h.pr h.ne h1' h2
  have e : (⟨a ++ nlT :: W, 1, M⟩ : PS) = Jx B a 0 0 := by
    show (⟨a ++ nlT :: W, 1, M⟩ : PS) = ⟨a ++ nlT :: W, 0 + 1, max (0 + 1) M⟩
    rw [show max (0 + 1) M = M by omega]
  rw [e]
  refine ⟨max (dm' + 1) M, by omega, e2, e1⟩
abbrev enT : List Tok := [(4, [])]
theorem andT_is {α β : Type} (a : α) (s : PS) (f : α → PS → PR β) : andT (.ok a s) f = f a s := rfl
theorem wantP_yes (k : Nat) (t : Bs) (X : List Tok) (dp dm : Nat) : wantP t ⟨(k, t) :: X, dp, dm⟩ = .ok () ⟨X, dp, dm⟩ := if_pos rfl
theorem wordP_yes (t : Bs) (X : List Tok) (dp dm : Nat) : wordP ⟨(1, t) :: X, dp, dm⟩ = .ok t ⟨X, dp, dm⟩ := if_pos rfl
theorem skipP_no (k : Nat) (t : Bs) (X : List Tok) (h : t ≠ [10]) : skipL ((k, t) :: X) = (k, t) :: X := if_neg h
theorem words_yes (n : Nat) (l : List Bs) (t : Bs) (X : List Tok) (dp dm : Nat) : wordsP (n + 1) l ⟨(1, t) :: X, dp, dm⟩ = wordsP n (l ++ [t]) ⟨X, dp, dm⟩ := by
  rw [wordsP]
  exact if_pos rfl
theorem words_no (n : Nat) (l : List Bs) (k : Nat) (hk : k ≠ 1) (t : Bs) (X : List Tok) (dp dm : Nat) : wordsP (n + 1) l ⟨(k, t) :: X, dp, dm⟩ = .ok l ⟨(k, t) :: X, dp, dm⟩ := by
  rw [wordsP]
  exact if_neg hk
/-- a compound by itself -/
theorem script_form {n : Nat} {t : Tok} {X : List Tok} {f : Fm} {k : Nat} {b : Bool} {ag ws : List Bs} {ks : List Cd} {ar : List (List Bs × Cd)} {M : Nat} (h10 : t.2 ≠ [10]) (he : endsB t.2 = false) (h33 : t.2 ≠ [33]) (hf : formOf t.2 = some f)
    (h : formP (n + 1) f ⟨X, 1, 1⟩ = .ok (.mk k b ag ws [] ks ar) ⟨enT, 1, M⟩) : scriptP (n + 6) (t :: X) = if 60 < M then .err 42 else .ok [.mk k b ag ws [] ks ar] := by
  have c0 : redirsP (n + 1) [] ⟨enT, 0, M⟩ = .ok [] ⟨enT, 0, M⟩ := by rw [redirsP]; rfl
  have c1 : commandP (n + 2) ⟨t :: X, 0, 0⟩ = .ok (.mk k b ag ws [] ks ar) ⟨enT, 0, M⟩ := by
    rw [commandP]
    have t1 : tx (⟨t :: X, 0, 0⟩ : PS).ts = t.2 := rfl
    rw [t1, hf]
    dsimp only
    have e0 : (⟨(t :: X).tail, 0 + 1, max 0 (0 + 1)⟩ : PS) = ⟨X, 1, 1⟩ := rfl
    rw [e0, h, andT_is]
    dsimp only
    rw [show (1 : Nat) - 1 = 0 from rfl, c0, andT_is]
  have c2 : pipeP (n + 3) ⟨t :: X, 0, 0⟩ = .ok (.mk k b ag ws [] ks ar) ⟨enT, 0, M⟩ := by
    rw [pipeP]
    have t1 : tx (⟨t :: X, 0, 0⟩ : PS).ts = t.2 := rfl
    rw [t1, if_neg h33, decide_eq_false h33, c1, andT_is, pipeL]
    rfl
  have c3 : andorP (n + 4) ⟨t :: X, 0, 0⟩ = .ok (.mk k b ag ws [] ks ar) ⟨enT, 0, M⟩ := by
    rw [andorP, c2, andT_is, andorL]
    rfl
  have c4 : andorsP (n + 5) ⟨t :: X, 0, 0⟩ = .ok [.mk k b ag ws [] ks ar] ⟨enT, 0, M⟩ := by
    rw [andorsP, c3, andT_is, andorsL]
    rfl
  have c5 : lonP (n + 6) ⟨t :: X, 0, 0⟩ = .ok [.mk k b ag ws [] ks ar] ⟨enT, 0, M⟩ := by
    rw [lonP]
    have e : (⟨t :: X, 0, 0⟩ : PS).sk = ⟨t :: X, 0, 0⟩ := by
      show (⟨if t.2 = [10] then _ else _, 0, 0⟩ : PS) = _
      rw [if_neg h10]
    rw [e]
    rw [if_neg (by show ¬ endsB t.2 = true; rw [he]; decide)]
    exact c4
  unfold scriptP
  rw [c5]
  rfl
def Okay (R : GR) (c : Cd) : Prop := R = .err 42 ∨ R = .ok [c]
theorem okay_if {M : Nat} {c : Cd} {R : GR} (h : R = if 60 < M then .err 42 else .ok [c]) : Okay R c := by
  by_cases hM : 60 < M
  · exact .inl (by rw [h, if_pos hM])
  · exact .inr (by rw [h, if_neg hM])
theorem sub_n {n : Nat} (hn : 30000 ≤ n) {a : List Tok} {la : List Cd} (h : Lst a la) : Okay (scriptP (n + 6) ((2, [40]) :: (a ++ nlT :: (2, [41]) :: enT))) (.mk 11 false [] [] [] [aloneP la] []) := by
  obtain ⟨M', hM, e1, -⟩ := h.at_ ((2, [41]) :: enT) rfl rfl n 1 hn (by omega)
  refine okay_if (script_form (f := .sub) (by decide) (by decide) (by decide) rfl (M := M') ?_)
  rw [formP, e1, andT_is, wantP_yes, andT_is]
theorem grp_n {n : Nat} (hn : 30000 ≤ n) {a : List Tok} {la : List Cd} (h : Lst a la) : Okay (scriptP (n + 6) ((1, [123]) :: (a ++ nlT :: (1, [125]) :: enT))) (.mk 10 false [] [] [] [aloneP la] []) := by
  obtain ⟨M', hM, e1, -⟩ := h.at_ ((1, [125]) :: enT) rfl rfl n 1 hn (by omega)
  refine okay_if (script_form (f := .grp) (by decide) (by decide) (by decide) rfl (M := M') ?_)
  rw [formP, e1, andT_is, wantP_yes, andT_is]
theorem if_n {n : Nat} (hn : 30000 ≤ n) {a b : List Tok} {la lb : List Cd} (h : Lst a la) (hb : Lst b lb) : Okay (scriptP (n + 1 + 6) ((1, [105, 102]) :: (a ++ nlT :: (1, [116, 104, 101, 110]) :: (b ++ nlT :: (1, [102, 105]) :: enT)))) (.mk 6 false [] [] [] [aloneP la, aloneP lb] []) := by
  obtain ⟨M1, hM1, e1, -⟩ := h.at_ ((1, [116, 104, 101, 110]) :: (b ++ nlT :: (1, [102, 105]) :: enT)) rfl rfl n 1 hn (by omega)
  obtain ⟨M2, hM2, e2, -⟩ := hb.at_ ((1, [102, 105]) :: enT) rfl rfl n M1 hn hM1
  refine okay_if (script_form (f := .cho) (by decide) (by decide) (by decide) rfl (M := M2) ?_)
  rw [formP, choiceP, e1, andT_is, wantP_yes, andT_is, e2, andT_is]
  rw [if_neg (by show ¬ ([102, 105] : Bs) = [101, 108, 105, 102]; decide), if_neg (by show ¬ ([102, 105] : Bs) = [101, 108, 115, 101]; decide), wantP_yes, andT_is]
theorem while_n {n : Nat} (hn : 30000 ≤ n) {a b : List Tok} {la lb : List Cd} (h : Lst a la) (hb : Lst b lb) : Okay (scriptP (n + 2 + 6) ((1, [119, 104, 105, 108, 101]) :: (a ++ nlT :: (1, [100, 111]) :: (b ++ nlT :: (1, [100, 111, 110, 101]) :: enT)))) (.mk 7 false [] [] [] [aloneP la, aloneP lb] []) := by
  obtain ⟨M1, hM1, e1, -⟩ := h.at_ ((1, [100, 111]) :: (b ++ nlT :: (1, [100, 111, 110, 101]) :: enT)) rfl rfl (n + 1) 1 (by omega) (by omega)
  obtain ⟨M2, hM2, e2, -⟩ := hb.at_ ((1, [100, 111, 110, 101]) :: enT) rfl rfl n M1 hn hM1
  refine okay_if (script_form (f := .whl) (by decide) (by decide) (by decide) rfl (M := M2) ?_)
  rw [formP, whileP, e1, andT_is, doP, wantP_yes, andT_is, e2, andT_is, wantP_yes, andT_is, andT_is]
theorem for_n {n : Nat} (hn : 30000 ≤ n) {a : List Tok} {la : List Cd} (h : Lst a la) : Okay (scriptP (n + 3 + 6) ((1, [102, 111, 114]) :: (1, [105]) :: (1, [105, 110]) :: (1, [49]) :: (1, [50]) :: (2, [59]) :: (1, [100, 111]) :: (a ++ nlT :: (1, [100, 111, 110, 101]) :: enT))) (.mk 8 false [] [[105], [49], [50]] [] [aloneP la] []) := by
  obtain ⟨M1, hM1, e1, -⟩ := h.at_ ((1, [100, 111, 110, 101]) :: enT) rfl rfl (n + 2) 1 (by omega) (by omega)
  refine okay_if (script_form (f := .fr) (by decide) (by decide) (by decide) rfl (M := M1) ?_)
  generalize hX : a ++ nlT :: (1, [100, 111, 110, 101]) :: enT = X at e1
  have e0 : nameP ⟨(1, [105]) :: (1, [105, 110]) :: (1, [49]) :: (1, [50]) :: (2, [59]) :: (1, [100, 111]) :: X, 1, 1⟩ = .ok [105] ⟨(1, [105, 110]) :: (1, [49]) :: (1, [50]) :: (2, [59]) :: (1, [100, 111]) :: X, 1, 1⟩ := if_pos ⟨rfl, by show nameB [105] = true; decide⟩
  have e2 : wordsP (n + 3) [[105]] ⟨(1, [49]) :: (1, [50]) :: (2, [59]) :: (1, [100, 111]) :: X, 1, 1⟩ = .ok [[105], [49], [50]] ⟨(2, [59]) :: (1, [100, 111]) :: X, 1, 1⟩ := by
    rw [words_yes, words_yes, words_no _ _ _ (by decide)]
    rfl
  have e3 : doP (n + 3) ⟨(1, [100, 111]) :: X, 1, 1⟩ = .ok (aloneP la) ⟨enT, 1, M1⟩ := by
    rw [doP, wantP_yes, andT_is, e1, andT_is, wantP_yes, andT_is]
  have e4 : sepP ⟨(2, [59]) :: (1, [100, 111]) :: X, 1, 1⟩ = some ⟨(1, [100, 111]) :: X, 1, 1⟩ := rfl
  have e5 : (⟨(1, [105, 110]) :: (1, [49]) :: (1, [50]) :: (2, [59]) :: (1, [100, 111]) :: X, 1, 1⟩ : PS).sk = ⟨(1, [105, 110]) :: (1, [49]) :: (1, [50]) :: (2, [59]) :: (1, [100, 111]) :: X, 1, 1⟩ := rfl
  rw [formP, e0, andT_is, e5]
  rw [if_pos (show tx (⟨(1, [105, 110]) :: (1, [49]) :: (1, [50]) :: (2, [59]) :: (1, [100, 111]) :: X, 1, 1⟩ : PS).ts = [105, 110] from rfl)]
  have e6 : (⟨(1, [105, 110]) :: (1, [49]) :: (1, [50]) :: (2, [59]) :: (1, [100, 111]) :: X, 1, 1⟩ : PS).nx = ⟨(1, [49]) :: (1, [50]) :: (2, [59]) :: (1, [100, 111]) :: X, 1, 1⟩ := rfl
  rw [e6, e2, andT_is, e4]
  dsimp only
  rw [e3, andT_is]
theorem case_n {n : Nat} (hn : 30000 ≤ n) {a : List Tok} {la : List Cd} (h : Lst a la) : Okay (scriptP (n + 3 + 6) ((1, [99, 97, 115, 101]) :: (1, [119]) :: (1, [105, 110]) :: (1, [112]) :: (2, [41]) :: (a ++ nlT :: (2, [59, 59]) :: (1, [101, 115, 97, 99]) :: enT))) (.mk 9 false [] [[119]] [] [] [([[112]], aloneP la)]) := by
  obtain ⟨M1, hM1, -, e1⟩ := h.at_ ((2, [59, 59]) :: (1, [101, 115, 97, 99]) :: enT) rfl rfl (n + 1) 1 (by omega) (by omega)
  refine okay_if (script_form (f := .cas) (by decide) (by decide) (by decide) rfl (M := M1) ?_)
  generalize hX : a ++ nlT :: (2, [59, 59]) :: (1, [101, 115, 97, 99]) :: enT = X at e1
  have e2 : patsP (n + 1) [[112]] ⟨(2, [41]) :: X, 1, 1⟩ = .ok [[112]] ⟨(2, [41]) :: X, 1, 1⟩ := by
    rw [patsP, if_neg (by show ¬ ([41] : Bs) = [124]; decide)]
  have e3 : armP (n + 2) ⟨(1, [112]) :: (2, [41]) :: X, 1, 1⟩ = .ok ([[112]], aloneP la) ⟨(1, [101, 115, 97, 99]) :: enT, 1, M1⟩ := by
    rw [armP, if_neg (by show ¬ ([112] : Bs) = [40]; decide), wordP_yes, andT_is, e2, andT_is, wantP_yes, andT_is, e1, andT_is]
    rfl
  have e4 : armsP (n + 3) [] ⟨(1, [112]) :: (2, [41]) :: X, 1, 1⟩ = .ok [([[112]], aloneP la)] ⟨enT, 1, M1⟩ := by
    rw [armsP, if_neg (by show ¬ ([112] : Bs) = [101, 115, 97, 99]; decide), e3, andT_is, armsP]
    rfl
  have e5 : (⟨(1, [105, 110]) :: (1, [112]) :: (2, [41]) :: X, 1, 1⟩ : PS).sk = ⟨(1, [105, 110]) :: (1, [112]) :: (2, [41]) :: X, 1, 1⟩ := rfl
  have e6 : (⟨(1, [112]) :: (2, [41]) :: X, 1, 1⟩ : PS).sk = ⟨(1, [112]) :: (2, [41]) :: X, 1, 1⟩ := rfl
  rw [formP, wordP_yes, andT_is, e5, wantP_yes, andT_is, e6, e4, andT_is]
theorem around_sub {a : List Tok} {la : List Cd} (h : Lst a la) : Okay (scriptP 100000 ((2, [40]) :: (a ++ nlT :: (2, [41]) :: enT))) (.mk 11 false [] [] [] [aloneP la] []) := sub_n (n := 99994) (by omega) h
theorem around_grp {a : List Tok} {la : List Cd} (h : Lst a la) : Okay (scriptP 100000 ((1, [123]) :: (a ++ nlT :: (1, [125]) :: enT))) (.mk 10 false [] [] [] [aloneP la] []) := grp_n (n := 99994) (by omega) h
theorem around_if {a b : List Tok} {la lb : List Cd} (h : Lst a la) (hb : Lst b lb) : Okay (scriptP 100000 ((1, [105, 102]) :: (a ++ nlT :: (1, [116, 104, 101, 110]) :: (b ++ nlT :: (1, [102, 105]) :: enT)))) (.mk 6 false [] [] [] [aloneP la, aloneP lb] []) := if_n (n := 99993) (by omega) h hb
theorem around_while {a b : List Tok} {la lb : List Cd} (h : Lst a la) (hb : Lst b lb) : Okay (scriptP 100000 ((1, [119, 104, 105, 108, 101]) :: (a ++ nlT :: (1, [100, 111]) :: (b ++ nlT :: (1, [100, 111, 110, 101]) :: enT)))) (.mk 7 false [] [] [] [aloneP la, aloneP lb] []) := while_n (n := 99992) (by omega) h hb
theorem around_for {a : List Tok} {la : List Cd} (h : Lst a la) : Okay (scriptP 100000 ((1, [102, 111, 114]) :: (1, [105]) :: (1, [105, 110]) :: (1, [49]) :: (1, [50]) :: (2, [59]) :: (1, [100, 111]) :: (a ++ nlT :: (1, [100, 111, 110, 101]) :: enT))) (.mk 8 false [] [[105], [49], [50]] [] [aloneP la] []) := for_n (n := 99991) (by omega) h
theorem around_case {a : List Tok} {la : List Cd} (h : Lst a la) : Okay (scriptP 100000 ((1, [99, 97, 115, 101]) :: (1, [119]) :: (1, [105, 110]) :: (1, [112]) :: (2, [41]) :: (a ++ nlT :: (2, [59, 59]) :: (1, [101, 115, 97, 99]) :: enT))) (.mk 9 false [] [[119]] [] [] [([[112]], aloneP la)]) := case_n (n := 99991) (by omega) h
/-- a text that the law may put in -/
structure Txl (A : Bs) (la : List Cd) : Prop where
  h35 : ∀ b ∈ A, b ≠ 35
  h92 : ∀ b ∈ A, b ≠ 92
  short : A.length ≤ 2000
  ne : la ≠ []
  is : gramF A = .ok la
theorem txl_pt {A : Bs} {la : List Cd} (h : Txl A la) : ∃ x, Pt A x ∧ Lst x la := by
  have hg := h.is
  unfold gramF at hg
  cases hl : lexF A with
  | toks tk =>
    rw [hl] at hg
    obtain ⟨x, rfl, hx⟩ := pt_of h.h35 h.h92 hl
    refine ⟨x, hx, hx.pr, Nat.le_trans hx.cnt h.short, h.ne, ?_⟩
    dsimp only at hg
    unfold scriptP at hg
    split at hg
    · cases hg
    · cases hg
    · rename_i l s e
      split at hg
      · rename_i ht
        split at hg
        · cases hg
        · injection hg with hg
          exact ⟨s, by rw [← hg]; exact e, ht⟩
      · cases hg
  | err n => rw [hl] at hg; cases hg
  | none => rw [hl] at hg; cases hg
def litB (s : Bs) (a : List Tok) : Bool := s.all (fun c => c != 35 && c != 92) && decide (s.length ≤ 65536) && (match run s (3 * s.length + 10) .bw ⟨0, 0, [], []⟩ with | .toks l => l == a ++ [(4, [])] | _ => false)
theorem pt_lit {s : Bs} {a : List Tok} (h : litB s a = true) : Pt s a := by
  unfold litB at h
  simp only [Bool.and_eq_true, List.all_eq_true, bne_iff_ne, decide_eq_true_eq] at h
  obtain ⟨⟨h1, h2⟩, h3⟩ := h
  have hl : lexF s = .toks (a ++ [(4, [])]) := by
    unfold lexF
    rw [if_neg (by omega), joined_no s fun c hc => (h1 c hc).2]
    split at h3
    · rename_i l e; rw [e]; congr; simpa using h3
    · cases h3
  obtain ⟨x, e, hx⟩ := pt_of (fun c hc => (h1 c hc).1) (fun c hc => (h1 c hc).2) hl
  rw [List.append_cancel_right e]
  exact hx
theorem lx_last {A : Bs} {a : List Tok} (h : Pt A a) : Lx A (a ++ enT) := by
  have := lx_part h (.inl rfl) (by simp) lx_nil
  rwa [List.append_nil] at this
theorem gram_of {X : Bs} {z : List Tok} {c : Cd} (h : Lx X z) (h92 : ∀ b ∈ X, b ≠ 92) (hn : X.length ≤ 65536) (hz : z.length ≤ 5000) (ho : Okay (scriptP 100000 z) c) : Okay (gramF X) c := by
  unfold gramF
  rw [lx_lex h h92 hn hz]
  exact ho
theorem brk32 (X : Bs) : Brk (32 :: X) := .inr ⟨32, X, rfl, .inl rfl⟩
theorem brk10 (X : Bs) : Brk (10 :: X) := .inr ⟨10, X, rfl, .inr rfl⟩
def subS (A : Bs) : Bs := 40 :: (A ++ [10, 41])
def grpS (A : Bs) : Bs := [123] ++ 32 :: (A ++ [10, 125])
def ifS (A B : Bs) : Bs := [105, 102] ++ 32 :: (A ++ ([10, 116, 104, 101, 110] ++ 32 :: (B ++ [10, 102, 105])))
def whileS (A B : Bs) : Bs := [119, 104, 105, 108, 101] ++ 32 :: (A ++ ([10, 100, 111] ++ 32 :: (B ++ [10, 100, 111, 110, 101])))
def forS (A : Bs) : Bs := [102, 111, 114, 32, 105, 32, 105, 110, 32, 49, 32, 50, 59, 32, 100, 111] ++ 32 :: (A ++ [10, 100, 111, 110, 101])
def caseS (A : Bs) : Bs := [99, 97, 115, 101, 32, 119, 32, 105, 110, 32, 112, 41] ++ 32 :: (A ++ [10, 59, 59, 32, 101, 115, 97, 99])
theorem gram_sub {A : Bs} {la : List Cd} (h : Txl A la) : Okay (gramF (subS A)) (.mk 11 false [] [] [] [aloneP la] []) := by
  obtain ⟨a, ha, hl⟩ := txl_pt h
  have h1 := ha.cnt
  have h2 := h.short
  refine gram_of (lx_open (lx_part ha (brk10 _) (by simp) (lx_last (pt_lit (a := [nlT, (2, [41])]) (by kernel_rfl))))) (fun c hc => ?_) (by simp only [subS, List.length_append, List.length_cons, List.length_nil]; omega) (by simp only [List.length_append, List.length_cons, List.length_nil]; omega) (by simpa using around_sub hl)
  by_cases hA : c ∈ A
  · exact h.h92 c hA
  simp only [subS, List.mem_cons, List.mem_append, List.not_mem_nil, or_false, hA, false_or] at hc
  intro e
  subst e
  revert hc
  decide
theorem gram_grp {A : Bs} {la : List Cd} (h : Txl A la) : Okay (gramF (grpS A)) (.mk 10 false [] [] [] [aloneP la] []) := by
  obtain ⟨a, ha, hl⟩ := txl_pt h
  have h1 := ha.cnt
  have h2 := h.short
  refine gram_of (lx_part (pt_lit (a := [(1, [123])]) (by kernel_rfl)) (brk32 _) (by simp) (lx_blank (lx_part ha (brk10 _) (by simp) (lx_last (pt_lit (a := [nlT, (1, [125])]) (by kernel_rfl)))))) (fun c hc => ?_) (by simp only [grpS, List.length_append, List.length_cons, List.length_nil]; omega) (by simp only [List.length_append, List.length_cons, List.length_nil]; omega) (by simpa using around_grp hl)
  by_cases hA : c ∈ A
  · exact h.h92 c hA
  simp only [grpS, List.mem_cons, List.mem_append, List.not_mem_nil, or_false, hA, false_or] at hc
  intro e
  subst e
  revert hc
  decide
theorem gram_if {A B : Bs} {la lb : List Cd} (h : Txl A la) (h' : Txl B lb) : Okay (gramF (ifS A B)) (.mk 6 false [] [] [] [aloneP la, aloneP lb] []) := by
  obtain ⟨a, ha, hl⟩ := txl_pt h
  have h1 := ha.cnt
  have h2 := h.short
  obtain ⟨b, hb, hlb⟩ := txl_pt h'
  have h3 := hb.cnt
  have h4 := h'.short
  refine gram_of (lx_part (pt_lit (a := [(1, [105, 102])]) (by kernel_rfl)) (brk32 _) (by simp) (lx_blank (lx_part ha (brk10 _) (by simp) (lx_part (pt_lit (a := [nlT, (1, [116, 104, 101, 110])]) (by kernel_rfl)) (brk32 _) (by simp) (lx_blank (lx_part hb (brk10 _) (by simp) (lx_last (pt_lit (a := [nlT, (1, [102, 105])]) (by kernel_rfl))))))))) (fun c hc => ?_) (by simp only [ifS, List.length_append, List.length_cons, List.length_nil]; omega) (by simp only [List.length_append, List.length_cons, List.length_nil]; omega) (by simpa using around_if hl hlb)
  by_cases hA : c ∈ A
  · exact h.h92 c hA
  by_cases hB : c ∈ B
  · exact h'.h92 c hB
  simp only [ifS, List.mem_cons, List.mem_append, List.not_mem_nil, or_false, hA, hB, false_or] at hc
  intro e
  subst e
  revert hc
  decide
theorem gram_while {A B : Bs} {la lb : List Cd} (h : Txl A la) (h' : Txl B lb) : Okay (gramF (whileS A B)) (.mk 7 false [] [] [] [aloneP la, aloneP lb] []) := by
  obtain ⟨a, ha, hl⟩ := txl_pt h
  have h1 := ha.cnt
  have h2 := h.short
  obtain ⟨b, hb, hlb⟩ := txl_pt h'
  have h3 := hb.cnt
  have h4 := h'.short
  refine gram_of (lx_part (pt_lit (a := [(1, [119, 104, 105, 108, 101])]) (by kernel_rfl)) (brk32 _) (by simp) (lx_blank (lx_part ha (brk10 _) (by simp) (lx_part (pt_lit (a := [nlT, (1, [100, 111])]) (by kernel_rfl)) (brk32 _) (by simp) (lx_blank (lx_part hb (brk10 _) (by simp) (lx_last (pt_lit (a := [nlT, (1, [100, 111, 110, 101])]) (by kernel_rfl))))))))) (fun c hc => ?_) (by simp only [whileS, List.length_append, List.length_cons, List.length_nil]; omega) (by simp only [List.length_append, List.length_cons, List.length_nil]; omega) (by simpa using around_while hl hlb)
  by_cases hA : c ∈ A
  · exact h.h92 c hA
  by_cases hB : c ∈ B
  · exact h'.h92 c hB
  simp only [whileS, List.mem_cons, List.mem_append, List.not_mem_nil, or_false, hA, hB, false_or] at hc
  intro e
  subst e
  revert hc
  decide
theorem gram_for {A : Bs} {la : List Cd} (h : Txl A la) : Okay (gramF (forS A)) (.mk 8 false [] [[105], [49], [50]] [] [aloneP la] []) := by
  obtain ⟨a, ha, hl⟩ := txl_pt h
  have h1 := ha.cnt
  have h2 := h.short
  refine gram_of (lx_part (pt_lit (a := [(1, [102, 111, 114]), (1, [105]), (1, [105, 110]), (1, [49]), (1, [50]), (2, [59]), (1, [100, 111])]) (by kernel_rfl)) (brk32 _) (by simp) (lx_blank (lx_part ha (brk10 _) (by simp) (lx_last (pt_lit (a := [nlT, (1, [100, 111, 110, 101])]) (by kernel_rfl)))))) (fun c hc => ?_) (by simp only [forS, List.length_append, List.length_cons, List.length_nil]; omega) (by simp only [List.length_append, List.length_cons, List.length_nil]; omega) (by simpa using around_for hl)
  by_cases hA : c ∈ A
  · exact h.h92 c hA
  simp only [forS, List.mem_cons, List.mem_append, List.not_mem_nil, or_false, hA, false_or] at hc
  intro e
  subst e
  revert hc
  decide
theorem gram_case {A : Bs} {la : List Cd} (h : Txl A la) : Okay (gramF (caseS A)) (.mk 9 false [] [[119]] [] [] [([[112]], aloneP la)]) := by
  obtain ⟨a, ha, hl⟩ := txl_pt h
  have h1 := ha.cnt
  have h2 := h.short
  refine gram_of (lx_part (pt_lit (a := [(1, [99, 97, 115, 101]), (1, [119]), (1, [105, 110]), (1, [112]), (2, [41])]) (by kernel_rfl)) (brk32 _) (by simp) (lx_blank (lx_part ha (brk10 _) (by simp) (lx_last (pt_lit (a := [nlT, (2, [59, 59]), (1, [101, 115, 97, 99])]) (by kernel_rfl)))))) (fun c hc => ?_) (by simp only [caseS, List.length_append, List.length_cons, List.length_nil]; omega) (by simp only [List.length_append, List.length_cons, List.length_nil]; omega) (by simpa using around_case hl)
  by_cases hA : c ∈ A
  · exact h.h92 c hA
  simp only [caseS, List.mem_cons, List.mem_append, List.not_mem_nil, or_false, hA, false_or] at hc
  intro e
  subst e
  revert hc
  decide
end Go.Proofs.YtcemlhfodpelaaaGreatDoor
namespace Go.Proofs.YtcemlhfodpelaaaGreatDoor
open Go.RowKit Go.Shelf

/-- objects that are laid one behind the other -/
theorem alloc_all : ∀ (os : List Obj) (W0 : World), Below W0.heap.size W0 (os.foldl World.alloc W0) ∧ (os.foldl World.alloc W0).heap.size = W0.heap.size + os.length ∧ ∀ (i : Nat) o, os[i]? = some o → (os.foldl World.alloc W0).heap[W0.heap.size + i]? = some o
  | [], W0 => ⟨Below.refl _ _, rfl, fun i o h => by simp at h⟩
  | o :: os, W0 => by
    obtain ⟨h1, h2, h3⟩ := alloc_all os (W0.alloc o)
    have hb : Below W0.heap.size W0 (W0.alloc o) := (Below.refl _ _).alloc (Nat.le_refl _) _
    have hs : (W0.alloc o).heap.size = W0.heap.size + 1 := by simp
    refine ⟨hb.trans (h1.mono hb.size), ?_, fun i p hp => ?_⟩
    · rw [List.foldl_cons, h2, hs, List.length_cons]
      omega
    · rw [List.foldl_cons]
      cases i with
      | zero =>
        have : o = p := by simpa using hp
        subst this
        rw [Nat.add_zero]
        exact (h1.block _ (by omega)).trans (heap_alloc_new W0 _)
      | succ i =>
        have := h3 i p (by simpa using hp)
        rw [hs] at this
        rw [show W0.heap.size + (i + 1) = W0.heap.size + 1 + i by omega]
        exact this
theorem row_new {W : World} {S : Nat → Prop} {T sz n g : Nat} {cur : Array Value} (hg : W.heap[g]? = some (.cells cur T (0, 0))) (hS : S g) (hs : cur.size = n * sz) (hn : 0 < n) (hm : n ≤ maxLen) : RowS W S T sz (.slice (some ⟨g, 0, none⟩) n n) n cur.toList :=
  ⟨by simpa using hs, .inr ⟨g, n, cur, rfl, hS, hg, Nat.le_refl _, hm, hs, by rw [List.take_of_length_le (by simp [hs])], hn⟩⟩
abbrev Any : Nat → Prop := fun _ => True
/-- a command of kids and words -/
theorem cmd_of {W : World} (k : Nat) {ws : List Bs} {ks : List Cd} {wv kv : Value} {kc : List (List Value)} (h2 : StrsS W Any wv ws) (h4 : RowS W Any 28 7 kv ks.length kc.flatten) (h5 : kc.length = ks.length) (h6 : ∀ (i : Nat) cs c, kc[i]? = some cs → ks[i]? = some c → CdAt W Any cs c) : CdAt W Any [.int .i64 k, .bool false, .slice none 0 0, wv, .slice none 0 0, kv, .slice none 0 0] (.mk k false [] ws [] ks []) :=
  .intro k false [] ws [] ks [] _ wv _ kv _ kc [] (RowS.nil _ _ _ _) h2 (RowS.nil _ _ _ _) h4 h5 h6 (RowS.nil _ _ _ _) rfl (fun i a b h1 => by simp at h1) (fun i a b h1 => by simp at h1)
theorem one_kid {W : World} {xs : List Value} {X : Cd} (h : CdAt W Any xs X) : ∀ (i : Nat) cs c, [xs][i]? = some cs → [X][i]? = some c → CdAt W Any cs c := fun i cs c h1 h2 => by
  cases i with
  | zero => cases (Option.some.inj h1); cases (Option.some.inj h2); exact h
  | succ i => simp at h1
theorem two_kids {W : World} {xs ys : List Value} {X Y : Cd} (h : CdAt W Any xs X) (h' : CdAt W Any ys Y) : ∀ (i : Nat) cs c, [xs, ys][i]? = some cs → [X, Y][i]? = some c → CdAt W Any cs c := fun i cs c h1 h2 => by
  cases i with
  | zero => cases (Option.some.inj h1); cases (Option.some.inj h2); exact h
  | succ i =>
    cases i with
    | zero => cases (Option.some.inj h1); cases (Option.some.inj h2); exact h'
    | succ i => simp at h1
abbrev nil0 : Value := .slice none 0 0
abbrev sl (g n : Nat) : Value := .slice (some ⟨g, 0, none⟩) n n
/-- the commands that the law lays: b is the block of the texts -/
def wantV (b : Nat) : List (List Value) := [[.int .i64 11, .bool false, nil0, nil0, nil0, sl (b + 1) 1, nil0], [.int .i64 10, .bool false, nil0, nil0, nil0, sl (b + 2) 1, nil0], [.int .i64 6, .bool false, nil0, nil0, nil0, sl (b + 3) 2, nil0], [.int .i64 7, .bool false, nil0, nil0, nil0, sl (b + 4) 2, nil0], [.int .i64 8, .bool false, nil0, sl (b + 5) 3, nil0, sl (b + 6) 1, nil0], [.int .i64 9, .bool false, nil0, sl (b + 7) 1, nil0, nil0, sl (b + 9) 1]]
def wantC (X Y : Cd) : List Cd := [.mk 11 false [] [] [] [X] [], .mk 10 false [] [] [] [X] [], .mk 6 false [] [] [] [X, Y] [], .mk 7 false [] [] [] [X, Y] [], .mk 8 false [] [[105], [49], [50]] [] [X] [], .mk 9 false [] [[119]] [] [] [([[112]], X)]]
def wantO (b : Nat) (F : Array Value) (xs ys : List Value) : List Obj := [.cells F 9, .cells xs.toArray 28, .cells xs.toArray 28, .cells (xs ++ ys).toArray 28, .cells (xs ++ ys).toArray 28, .cells #[.string ⟨#[105]⟩, .string ⟨#[49]⟩, .string ⟨#[50]⟩] 9, .cells xs.toArray 28, .cells #[.string ⟨#[119]⟩] 9, .cells #[.string ⟨#[112]⟩] 9, .cells (sl (b + 8) 1 :: xs).toArray 42, .cells (wantV b).flatten.toArray 28]
theorem want_laid {W0 : World} {b : Nat} {F : Array Value} {xs ys : List Value} {X Y : Cd} (hb : W0.heap.size = b) (hX : CdAt W0 Any xs X) (hY : CdAt W0 Any ys Y) :
    Below W0.heap.size W0 ((wantO b F xs ys).foldl World.alloc W0) ∧ ((wantO b F xs ys).foldl World.alloc W0).heap[b]? = some (.cells F 9 (0, 0)) ∧ ((wantO b F xs ys).foldl World.alloc W0).heap[b + 10]? = some (.cells (wantV b).flatten.toArray 28 (0, 0)) ∧
      ∀ (i : Nat) cs c, (wantV b)[i]? = some cs → (wantC X Y)[i]? = some c → CdAt ((wantO b F xs ys).foldl World.alloc W0) Any cs c := by
  obtain ⟨h1, -, h3⟩ := alloc_all (wantO b F xs ys) W0
  rw [hb] at h3
  generalize (wantO b F xs ys).foldl World.alloc W0 = W at h1 h3 ⊢
  have hX := hX.low h1
  have hY := hY.low h1
  have lx := hX.len
  have ly := hY.len
  have hm := max_is
  have r1 := row_new (W := W) (S := Any) (T := 28) (sz := 7) (n := 1) (h3 1 _ rfl) trivial (by simp [lx]) (by omega) (by omega)
  have r2 := row_new (W := W) (S := Any) (T := 28) (sz := 7) (n := 1) (h3 2 _ rfl) trivial (by simp [lx]) (by omega) (by omega)
  have r3 := row_new (W := W) (S := Any) (T := 28) (sz := 7) (n := 2) (h3 3 _ rfl) trivial (by simp [lx, ly]) (by omega) (by omega)
  have r4 := row_new (W := W) (S := Any) (T := 28) (sz := 7) (n := 2) (h3 4 _ rfl) trivial (by simp [lx, ly]) (by omega) (by omega)
  have r5 := row_new (W := W) (S := Any) (T := 9) (sz := 1) (n := 3) (h3 5 _ rfl) trivial (by simp) (by omega) (by omega)
  have r6 := row_new (W := W) (S := Any) (T := 28) (sz := 7) (n := 1) (h3 6 _ rfl) trivial (by simp [lx]) (by omega) (by omega)
  have r7 := row_new (W := W) (S := Any) (T := 9) (sz := 1) (n := 1) (h3 7 _ rfl) trivial (by simp) (by omega) (by omega)
  have r8 := row_new (W := W) (S := Any) (T := 9) (sz := 1) (n := 1) (h3 8 _ rfl) trivial (by simp) (by omega) (by omega)
  have r9 := row_new (W := W) (S := Any) (T := 42) (sz := 8) (n := 1) (h3 9 _ rfl) trivial (by simp [lx]) (by omega) (by omega)
  refine ⟨h1, h3 0 _ rfl, h3 10 _ rfl, fun i cs c e1 e2 => ?_⟩
  match i, e1, e2 with
  | 0, e1, e2 =>
    cases (Option.some.inj e1); cases (Option.some.inj e2)
    exact cmd_of 11 (RowS.nil _ _ _ _) (kc := [xs]) (by simpa using r1) rfl (one_kid hX)
  | 1, e1, e2 =>
    cases (Option.some.inj e1); cases (Option.some.inj e2)
    exact cmd_of 10 (RowS.nil _ _ _ _) (kc := [xs]) (by simpa using r2) rfl (one_kid hX)
  | 2, e1, e2 =>
    cases (Option.some.inj e1); cases (Option.some.inj e2)
    exact cmd_of 6 (RowS.nil _ _ _ _) (kc := [xs, ys]) (by simpa using r3) rfl (two_kids hX hY)
  | 3, e1, e2 =>
    cases (Option.some.inj e1); cases (Option.some.inj e2)
    exact cmd_of 7 (RowS.nil _ _ _ _) (kc := [xs, ys]) (by simpa using r4) rfl (two_kids hX hY)
  | 4, e1, e2 =>
    cases (Option.some.inj e1); cases (Option.some.inj e2)
    exact cmd_of 8 r5 (kc := [xs]) (by simpa using r6) rfl (one_kid hX)
  | 5, e1, e2 =>
    cases (Option.some.inj e1); cases (Option.some.inj e2)
    refine .intro 9 false [] [[119]] [] [] [([[112]], X)] _ _ _ _ _ [] [(sl (b + 8) 1, xs)] (RowS.nil _ _ _ _) r7 (RowS.nil _ _ _ _) (RowS.nil _ _ _ _) rfl (fun i a b h1 => by simp at h1) (by simpa [armC] using r9) rfl (fun i a b' h1 h2 => ?_) (fun i a b' h1 h2 => ?_)
    · cases i with
      | zero => cases (Option.some.inj h1); cases (Option.some.inj h2); exact r8
      | succ i => simp at h1
    · cases i with
      | zero => cases (Option.some.inj h1); cases (Option.some.inj h2); exact hX
      | succ i => simp at h1
  | i + 6, e1, _ => simp [wantV] at e1
/-- the one command of a row, whatever the row's blocks -/
theorem kid_first {w : World} {S : Nat → Prop} {kv : Value} {kc : List (List Value)} {c : Cd} (h : KidsS w S kv kc [c]) : ∃ (g cap : Nat) (k : Nat) (nt : Bool) (a1 a2 a3 a4 a5 : Option Addr) (n1 n2 n3 n4 n5 c1 c2 c3 c4 c5 : Nat), kv = .slice (some ⟨g, 0, none⟩) 1 cap ∧ g < w.heap.size ∧ CdAt w S [.int .i64 k, .bool nt, .slice a1 n1 c1, .slice a2 n2 c2, .slice a3 n3 c3, .slice a4 n4 c4, .slice a5 n5 c5] c ∧
    w.cell? ⟨g, 0, none⟩ = some (.int .i64 k) ∧ w.cell? ⟨g, 1, none⟩ = some (.bool nt) ∧ w.cell? ⟨g, 2, none⟩ = some (.slice a1 n1 c1) ∧ w.cell? ⟨g, 3, none⟩ = some (.slice a2 n2 c2) ∧ w.cell? ⟨g, 4, none⟩ = some (.slice a3 n3 c3) ∧ w.cell? ⟨g, 5, none⟩ = some (.slice a4 n4 c4) ∧ w.cell? ⟨g, 6, none⟩ = some (.slice a5 n5 c5) := by
  have hl : kc.length = 1 := h.len
  obtain ⟨cs, rfl⟩ : ∃ cs, kc = [cs] := List.length_eq_one_iff.1 hl
  have hc := h.kid 0 cs c rfl rfl
  obtain ⟨k, nt, a1, a2, a3, a4, a5, n1, n2, n3, n4, n5, c1, c2, c3, c4, c5, rfl⟩ := hc.form
  obtain ⟨g, cap, rfl, -, -, hg, -, hcell⟩ := row_cells h.row (by simp)
  exact ⟨g, cap, k, nt, a1, a2, a3, a4, a5, n1, n2, n3, n4, n5, c1, c2, c3, c4, c5, rfl, hg, hc.mono fun _ h3 _ => h3.1, hcell 0 _ rfl, hcell 1 _ rfl, hcell 2 _ rfl, hcell 3 _ rfl, hcell 4 _ rfl, hcell 5 _ rfl, hcell 6 _ rfl⟩
abbrev five (v : Value) : List Value := [.int .i64 5, .bool false, .slice none 0 0, .slice none 0 0, .slice none 0 0, v, .slice none 0 0]
/-- a box with seven cells that are a command's -/
def BoxC (W : World) (b : Nat) (X : Cd) : Prop := ∃ v0 v1 v2 v3 v4 v5 v6 : Value, W.heap[b]? = some (.cells #[v0, v1, v2, v3, v4, v5, v6] 28 (0, 0)) ∧ CdAt W (fun g => g < b) [v0, v1, v2, v3, v4, v5, v6] X
theorem alone_more {l : List Cd} (h : ¬ l.length = 1) : aloneP l = .mk 5 false [] [] [] l [] := by
  match l, h with
  | [], _ => rfl
  | [c], h => exact absurd rfl h
  | a :: b :: r, _ => rfl
/-- a row of commands whose box stays as it is -/
theorem box_stay {W : World} {b : Nat} {S : Nat → Prop} {kv : Value} {ks : List (List Value)} {l : List Cd} (hz : W.heap[b]? = some (.cells (five kv).toArray 28 (0, 0))) (hK : KidsS W S kv ks l) (hS : ∀ g, S g → g < b) (hl : ¬ l.length = 1) : BoxC W b (aloneP l) :=
  ⟨_, _, _, _, _, _, _, hz, by rw [alone_more hl]; exact (hK.cmd 5 false).mono fun g h _ => hS g h⟩
theorem set7_below {w W : World} {b : Nat} (h : Below w.heap.size w W) (hb : w.heap.size ≤ b) (v0 v1 v2 v3 v4 v5 v6 : Value) : Below w.heap.size w (set7 W b v0 v1 v2 v3 v4 v5 v6) := by
  have hg := set7_grown W b v0 v1 v2 v3 v4 v5 v6
  exact h.trans ⟨hg.os, hg.tape, hg.output, hg.size, fun k hk => hg.block k (Nat.lt_of_lt_of_le hk h.size) fun e => by have := Option.some.inj e; omega⟩
theorem set7_oth {W : World} {b g : Nat} (hg : g < W.heap.size) (hne : g ≠ b) (v0 v1 v2 v3 v4 v5 v6 : Value) : (set7 W b v0 v1 v2 v3 v4 v5 v6).heap[g]? = W.heap[g]? := (set7_grown W b v0 v1 v2 v3 v4 v5 v6).block g hg fun e => hne (Option.some.inj e)
theorem set7_size (W : World) (b : Nat) (v0 v1 v2 v3 v4 v5 v6 : Value) : (set7 W b v0 v1 v2 v3 v4 v5 v6).heap.size = W.heap.size := by simp [set7]
/-- a box that a command is written into -/
theorem box_put {W : World} {b : Nat} {u0 u1 u2 u3 u4 u5 u6 v0 v1 v2 v3 v4 v5 v6 : Value} {c : Cd} {S : Nat → Prop} (hz : W.heap[b]? = some (.cells #[u0, u1, u2, u3, u4, u5, u6] 28 (0, 0))) (hc : CdAt W S [v0, v1, v2, v3, v4, v5, v6] c) (hS : ∀ g, S g → g < b) : BoxC (set7 W b v0 v1 v2 v3 v4 v5 v6) b c :=
  ⟨v0, v1, v2, v3, v4, v5, v6, set7_blk hz v0 v1 v2 v3 v4 v5 v6, (hc.kept fun g hg hl => set7_oth hl (by have := hS g hg; omega) v0 v1 v2 v3 v4 v5 v6).mono fun g hg _ => hS g hg⟩
/-- a box, where another one behind it is written -/
theorem BoxC.oth {W : World} {a b : Nat} {X : Cd} (h : BoxC W a X) (hab : a < b) (v0 v1 v2 v3 v4 v5 v6 : Value) : BoxC (set7 W b v0 v1 v2 v3 v4 v5 v6) a X := by
  obtain ⟨x0, x1, x2, x3, x4, x5, x6, hz, hc⟩ := h
  exact ⟨x0, x1, x2, x3, x4, x5, x6, (set7_oth (lt_of_block hz) (by omega) v0 v1 v2 v3 v4 v5 v6).trans hz, hc.kept fun g hg hl => set7_oth hl (by omega) v0 v1 v2 v3 v4 v5 v6⟩
/-- where x is settled, and y not yet -/
structure Cut1 (w wx : World) (bA bB : Nat) (X : Cd) (kv : Value) (lB : List Cd) : Prop where
  bel : Below w.heap.size w wx
  x : BoxC wx bA X
  y : wx.heap[bB]? = some (.cells (five kv).toArray 28 (0, 0))
  ky : ∃ ks, KidsS wx (fun g => g < bB ∧ g ≠ bA) kv ks lB
structure Cut2 (w wx : World) (bA bB : Nat) (X Y : Cd) : Prop where
  bel : Below w.heap.size w wx
  x : BoxC wx bA X
  y : BoxC wx bB Y
theorem Cut1.stay {w wx : World} {bA bB : Nat} {X : Cd} {kv : Value} {lB : List Cd} (h : Cut1 w wx bA bB X kv lB) (hl : ¬ lB.length = 1) : Cut2 w wx bA bB X (aloneP lB) := by
  obtain ⟨ks, hK⟩ := h.ky
  exact ⟨h.bel, h.x, box_stay h.y hK (fun g hg => hg.1) hl⟩
theorem Cut1.put {w wx : World} {bA bB : Nat} {X c : Cd} {kv : Value} {v0 v1 v2 v3 v4 v5 v6 : Value} (h : Cut1 w wx bA bB X kv [c]) (hab : bA < bB) (hw : w.heap.size ≤ bB) (hc : CdAt wx (fun g => g < bB ∧ g ≠ bA) [v0, v1, v2, v3, v4, v5, v6] c) : Cut2 w (set7 wx bB v0 v1 v2 v3 v4 v5 v6) bA bB X (aloneP [c]) :=
  ⟨set7_below h.bel hw _ _ _ _ _ _ _, h.x.oth hab _ _ _ _ _ _ _, box_put h.y hc fun _ hg => hg.1⟩
/-- x, ahead of all -/
theorem cut1_stay {w W : World} {bA bB : Nat} {kv kv' : Value} {lA lB : List Cd} {ks ks' : List (List Value)} (hb : Below w.heap.size w W) (hz : W.heap[bA]? = some (.cells (five kv).toArray 28 (0, 0))) (hz' : W.heap[bB]? = some (.cells (five kv').toArray 28 (0, 0))) (hK : KidsS W (fun g => g < bA) kv ks lA) (hK' : KidsS W (fun g => g < bB ∧ g ≠ bA) kv' ks' lB) (hl : ¬ lA.length = 1) : Cut1 w W bA bB (aloneP lA) kv' lB :=
  ⟨hb, box_stay hz hK (fun _ hg => hg) hl, hz', ks', hK'⟩
theorem cut1_put {w W : World} {bA bB : Nat} {kv kv' : Value} {c : Cd} {lB : List Cd} {ks' : List (List Value)} {v0 v1 v2 v3 v4 v5 v6 : Value} (hb : Below w.heap.size w W) (hz : W.heap[bA]? = some (.cells (five kv).toArray 28 (0, 0))) (hz' : W.heap[bB]? = some (.cells (five kv').toArray 28 (0, 0))) (hK' : KidsS W (fun g => g < bB ∧ g ≠ bA) kv' ks' lB) (hc : CdAt W (fun g => g < bA) [v0, v1, v2, v3, v4, v5, v6] c) (hab : bA < bB) (hw : w.heap.size ≤ bA) : Cut1 w (set7 W bA v0 v1 v2 v3 v4 v5 v6) bA bB (aloneP [c]) kv' lB :=
  ⟨set7_below hb hw _ _ _ _ _ _ _, box_put hz hc fun g hg => hg, (set7_oth (lt_of_block hz') (by omega) _ _ _ _ _ _ _).trans hz', ks', hK'.kept fun g hg hl => set7_oth hl hg.2 _ _ _ _ _ _ _⟩
end Go.Proofs.YtcemlhfodpelaaaGreatDoor
namespace Go.Proofs.YtcemlhfodpelaaaGreatDoor
open Go.RowKit Go.Shelf

/-- the world behind it -/
abbrev laidW (W0 : World) (F : Array Value) (x0 x1 x2 x3 x4 x5 x6 y0 y1 y2 y3 y4 y5 y6 : Value) : World := (((((((((((W0).alloc (.cells F 9)).alloc (.cells #[x0, x1, x2, x3, x4, x5, x6] 28)).alloc (.cells #[x0, x1, x2, x3, x4, x5, x6] 28)).alloc (.cells #[x0, x1, x2, x3, x4, x5, x6, y0, y1, y2, y3, y4, y5, y6] 28)).alloc (.cells #[x0, x1, x2, x3, x4, x5, x6, y0, y1, y2, y3, y4, y5, y6] 28)).alloc (.cells #[.string ⟨#[105]⟩, .string ⟨#[49]⟩, .string ⟨#[50]⟩] 9)).alloc (.cells #[x0, x1, x2, x3, x4, x5, x6] 28)).alloc (.cells #[.string ⟨#[119]⟩] 9)).alloc (.cells #[.string ⟨#[112]⟩] 9)).alloc (.cells #[.slice (some ⟨W0.heap.size + 1 + 1 + 1 + 1 + 1 + 1 + 1 + 1, 0, none⟩) 1 1, x0, x1, x2, x3, x4, x5, x6] 42)).alloc (.cells #[.int .i64 11, .bool false, .slice none 0 0, .slice none 0 0, .slice none 0 0, .slice (some ⟨W0.heap.size + 1, 0, none⟩) 1 1, .slice none 0 0, .int .i64 10, .bool false, .slice none 0 0, .slice none 0 0, .slice none 0 0, .slice (some ⟨W0.heap.size + 1 + 1, 0, none⟩) 1 1, .slice none 0 0, .int .i64 6, .bool false, .slice none 0 0, .slice none 0 0, .slice none 0 0, .slice (some ⟨W0.heap.size + 1 + 1 + 1, 0, none⟩) 2 2, .slice none 0 0, .int .i64 7, .bool false, .slice none 0 0, .slice none 0 0, .slice none 0 0, .slice (some ⟨W0.heap.size + 1 + 1 + 1 + 1, 0, none⟩) 2 2, .slice none 0 0, .int .i64 8, .bool false, .slice none 0 0, .slice (some ⟨W0.heap.size + 1 + 1 + 1 + 1 + 1, 0, none⟩) 3 3, .slice none 0 0, .slice (some ⟨W0.heap.size + 1 + 1 + 1 + 1 + 1 + 1, 0, none⟩) 1 1, .slice none 0 0, .int .i64 9, .bool false, .slice none 0 0, .slice (some ⟨W0.heap.size + 1 + 1 + 1 + 1 + 1 + 1 + 1, 0, none⟩) 1 1, .slice none 0 0, .slice none 0 0, .slice (some ⟨W0.heap.size + 1 + 1 + 1 + 1 + 1 + 1 + 1 + 1 + 1, 0, none⟩) 1 1] 28)
theorem laid_is (W0 : World) (F : Array Value) (x0 x1 x2 x3 x4 x5 x6 y0 y1 y2 y3 y4 y5 y6 : Value) : laidW W0 F x0 x1 x2 x3 x4 x5 x6 y0 y1 y2 y3 y4 y5 y6 = (wantO W0.heap.size F [x0, x1, x2, x3, x4, x5, x6] [y0, y1, y2, y3, y4, y5, y6]).foldl World.alloc W0 := rfl
theorem want_lit {W0 : World} {F : Array Value} {x0 x1 x2 x3 x4 x5 x6 y0 y1 y2 y3 y4 y5 y6 : Value} {P Q : Cd} (hX : CdAt W0 Any [x0, x1, x2, x3, x4, x5, x6] P) (hY : CdAt W0 Any [y0, y1, y2, y3, y4, y5, y6] Q) : ∀ W9, laidW W0 F x0 x1 x2 x3 x4 x5 x6 y0 y1 y2 y3 y4 y5 y6 = W9 →
    Below W0.heap.size W0 W9 ∧ W9.heap[W0.heap.size]? = some (.cells F 9 (0, 0)) ∧ W9.heap[W0.heap.size + 10]? = some (.cells (wantV W0.heap.size).flatten.toArray 28 (0, 0)) ∧ ∀ (i : Nat) cs c, (wantV W0.heap.size)[i]? = some cs → (wantC P Q)[i]? = some c → CdAt W9 Any cs c := fun W9 h => by
  rw [laid_is] at h
  rw [← h]
  exact want_laid rfl hX hY
/-- the texts that the law builds -/
abbrev formsV (A B : ByteArray) : Array Value := #[.string ((⟨#[40]⟩ : ByteArray) ++ A ++ ⟨#[10, 41]⟩), .string ((⟨#[123, 32]⟩ : ByteArray) ++ A ++ ⟨#[10, 125]⟩), .string ((⟨#[105, 102, 32]⟩ : ByteArray) ++ A ++ ⟨#[10, 116, 104, 101, 110, 32]⟩ ++ B ++ ⟨#[10, 102, 105]⟩), .string ((⟨#[119, 104, 105, 108, 101, 32]⟩ : ByteArray) ++ A ++ ⟨#[10, 100, 111, 32]⟩ ++ B ++ ⟨#[10, 100, 111, 110, 101]⟩), .string ((⟨#[102, 111, 114, 32, 105, 32, 105, 110, 32, 49, 32, 50, 59, 32, 100, 111, 32]⟩ : ByteArray) ++ A ++ ⟨#[10, 100, 111, 110, 101]⟩), .string ((⟨#[99, 97, 115, 101, 32, 119, 32, 105, 110, 32, 112, 41, 32]⟩ : ByteArray) ++ A ++ ⟨#[10, 59, 59, 32, 101, 115, 97, 99]⟩)]
theorem form_0 (A : ByteArray) : tl ((⟨#[40]⟩ : ByteArray) ++ A ++ ⟨#[10, 41]⟩) = subS (tl A) := by simp [tl, ByteArray.data_append, subS]
theorem form_1 (A : ByteArray) : tl ((⟨#[123, 32]⟩ : ByteArray) ++ A ++ ⟨#[10, 125]⟩) = grpS (tl A) := by simp [tl, ByteArray.data_append, grpS]
theorem form_2 (A B : ByteArray) : tl ((⟨#[105, 102, 32]⟩ : ByteArray) ++ A ++ ⟨#[10, 116, 104, 101, 110, 32]⟩ ++ B ++ ⟨#[10, 102, 105]⟩) = ifS (tl A) (tl B) := by simp [tl, ByteArray.data_append, ifS]
theorem form_3 (A B : ByteArray) : tl ((⟨#[119, 104, 105, 108, 101, 32]⟩ : ByteArray) ++ A ++ ⟨#[10, 100, 111, 32]⟩ ++ B ++ ⟨#[10, 100, 111, 110, 101]⟩) = whileS (tl A) (tl B) := by simp [tl, ByteArray.data_append, whileS]
theorem form_4 (A : ByteArray) : tl ((⟨#[102, 111, 114, 32, 105, 32, 105, 110, 32, 49, 32, 50, 59, 32, 100, 111, 32]⟩ : ByteArray) ++ A ++ ⟨#[10, 100, 111, 110, 101]⟩) = forS (tl A) := by simp [tl, ByteArray.data_append, forS]
theorem form_5 (A : ByteArray) : tl ((⟨#[99, 97, 115, 101, 32, 119, 32, 105, 110, 32, 112, 41, 32]⟩ : ByteArray) ++ A ++ ⟨#[10, 59, 59, 32, 101, 115, 97, 99]⟩) = caseS (tl A) := by simp [tl, ByteArray.data_append, caseS]
/-- of each form: its text, its command, where both lie -/
def Form (W9 : World) (b d j : Nat) : Prop := ∃ (f : ByteArray) (c : Cd) (v0 v1 v2 v3 v4 v5 v6 : Value), Okay (gramF (tl f)) c ∧ ∀ W', Below W9.heap.size W9 W' → W'.cell? ⟨b, j, none⟩ = some (.string f) ∧ (W'.cell? ⟨d, j * 7, none⟩ = some v0 ∧ W'.cell? ⟨d, j * 7 + 1, none⟩ = some v1 ∧ W'.cell? ⟨d, j * 7 + 2, none⟩ = some v2 ∧ W'.cell? ⟨d, j * 7 + 3, none⟩ = some v3 ∧ W'.cell? ⟨d, j * 7 + 4, none⟩ = some v4 ∧ W'.cell? ⟨d, j * 7 + 5, none⟩ = some v5 ∧ W'.cell? ⟨d, j * 7 + 6, none⟩ = some v6) ∧ CdAt W' Any [v0, v1, v2, v3, v4, v5, v6] c
theorem form_at {W9 : World} {A B f : ByteArray} {b d j : Nat} {P Q c : Cd} {v0 v1 v2 v3 v4 v5 v6 : Value} (zF : W9.heap[b]? = some (.cells (formsV A B) 9 (0, 0))) (zV : W9.heap[d]? = some (.cells (wantV b).flatten.toArray 28 (0, 0))) (hC : ∀ (i : Nat) cs c, (wantV b)[i]? = some cs → (wantC P Q)[i]? = some c → CdAt W9 Any cs c)
    (hf : (formsV A B)[j]? = some (.string f)) (hv : (wantV b)[j]? = some [v0, v1, v2, v3, v4, v5, v6]) (hc : (wantC P Q)[j]? = some c) (hO : Okay (gramF (tl f)) c) : Form W9 b d j := by
  have l7 : ∀ c ∈ wantV b, c.length = 7 := by
    intro c hc
    simp only [wantV, List.mem_cons, List.not_mem_nil, or_false] at hc
    rcases hc with rfl | rfl | rfl | rfl | rfl | rfl <;> rfl
  have m : ∀ (i : Nat) u, ([v0, v1, v2, v3, v4, v5, v6] : List Value)[i]? = some u → ∀ W', Below W9.heap.size W9 W' → W'.cell? ⟨d, j * 7 + i, none⟩ = some u := fun i u hu W' hb => by
    rw [hb.cell (p := ⟨d, _, none⟩) (lt_of_block zV), Lib.cell_of_heap zV]
    have := getElem_flatten7 l7 hv hu
    simpa using this
  refine ⟨f, c, v0, v1, v2, v3, v4, v5, v6, hO, fun W' hb => ⟨?_, ⟨m 0 _ rfl W' hb, m 1 _ rfl W' hb, m 2 _ rfl W' hb, m 3 _ rfl W' hb, m 4 _ rfl W' hb, m 5 _ rfl W' hb, m 6 _ rfl W' hb⟩, (hC j _ c hv hc).low hb⟩⟩
  rw [hb.cell (p := ⟨b, _, none⟩) (lt_of_block zF), Lib.cell_of_heap zF]
  exact hf
theorem forms_all {W9 : World} {A B : ByteArray} {b d : Nat} {la lb : List Cd} (zF : W9.heap[b]? = some (.cells (formsV A B) 9 (0, 0))) (zV : W9.heap[d]? = some (.cells (wantV b).flatten.toArray 28 (0, 0))) (hC : ∀ (i : Nat) cs c, (wantV b)[i]? = some cs → (wantC (aloneP la) (aloneP lb))[i]? = some c → CdAt W9 Any cs c) (hA : Txl (tl A) la) (hB : Txl (tl B) lb) : ∀ j, j < 6 → Form W9 b d j
  | 0, _ => form_at zF zV hC rfl rfl rfl (by rw [form_0]; exact gram_sub hA)
  | 1, _ => form_at zF zV hC rfl rfl rfl (by rw [form_1]; exact gram_grp hA)
  | 2, _ => form_at zF zV hC rfl rfl rfl (by rw [form_2]; exact gram_if hA hB)
  | 3, _ => form_at zF zV hC rfl rfl rfl (by rw [form_3]; exact gram_while hA hB)
  | 4, _ => form_at zF zV hC rfl rfl rfl (by rw [form_4]; exact gram_for hA)
  | 5, _ => form_at zF zV hC rfl rfl rfl (by rw [form_5]; exact gram_case hA)
  | j + 6, h => by omega
end Go.Proofs.YtcemlhfodpelaaaGreatDoor
