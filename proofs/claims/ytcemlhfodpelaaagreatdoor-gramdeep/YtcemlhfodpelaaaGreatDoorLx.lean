/- The lexer's states and steps, over lists of bytes: of no program. -/
import Derived.Test.YtcemlhfodpelaaaGreatDoorWord
import Derived.Lib.IndexMore
namespace Go.Proofs.YtcemlhfodpelaaaGreatDoor
open Go.RowKit

inductive St where
  | bw | wd | db | cm | br | bq
/-- where the token begins, the place, the tokens, what is open -/
structure LS where
  fr : Nat
  p : Nat
  tk : List (Nat × Bs)
  op : List St
inductive Out where
  | next (s : St) (l : LS)
  | done (l : LS)
  | bad (n : Nat)
  | stuck
abbrev atP (l : LS) (n : Nat) : LS := ⟨l.fr, n, l.tk, l.op⟩
def piece (T : Bs) (l : LS) : Bs := (T.drop l.fr).take (l.p - l.fr)
def tellS (T : Bs) (k : Nat) (l : LS) : LS := ⟨l.fr, l.p, l.tk ++ [(k, piece T l)], l.op⟩
def tellO (T : Bs) (k : Nat) (l : LS) (f : LS → Out) : Out := if l.tk.length = 5000 then .bad 2 else f (tellS T k l)
def enterO (k : Nat) (s b : St) (l : LS) : Out := if l.op.length = 60 then .bad 42 else .next s ⟨l.fr, l.p + k, l.tk, l.op ++ [b]⟩
def leaveO (l : LS) : Out := match l.op.getLast? with
  | none => .stuck
  | some s => .next s ⟨l.fr, l.p + 1, l.tk, l.op.dropLast⟩
def foll (T : Bs) (p : Nat) (c : UInt8) : Bool := decide (p + 1 < T.length) && (T.getD (p + 1) 0 == c)
def cutN (T : Bs) (c : UInt8) : Nat := (Lib.cut T [c]).1.length
def cutB (T : Bs) (c : UInt8) : Bool := (Lib.cut T [c]).2.2
def passO (T : Bs) (here : St) (l : LS) : Out :=
  if T.getD l.p 0 = 39 then (if cutB (T.drop (l.p + 1)) 39 = true then .next here (atP l (l.p + (cutN (T.drop (l.p + 1)) 39 + 2))) else .bad 30)
  else if T.getD l.p 0 = 92 then .next here (atP l (min (l.p + 2) T.length))
  else if T.getD l.p 0 = 34 then enterO 1 .db here l
  else if T.getD l.p 0 = 96 then enterO 1 .bq here l
  else if T.getD l.p 0 = 36 then (if foll T l.p 40 = true then enterO 2 .cm here l else if foll T l.p 123 = true then enterO 2 .br here l else .next here (atP l (l.p + 1)))
  else .next here (atP l (l.p + 1))
def wend (c : UInt8) : Bool := c == 32 || c == 9 || c == 10 || c == 59 || c == 38 || c == 124 || c == 40 || c == 41 || c == 60 || c == 62
def stepB (T : Bs) (l : LS) : Out :=
  if l.p = T.length then tellO T 4 l .done
  else if T.getD l.p 0 = 32 ∨ T.getD l.p 0 = 9 then .next .bw (atP l (l.p + 1))
  else if T.getD l.p 0 = 35 then .next .bw (atP l (l.p + cutN (T.drop l.p) 10))
  else if T.getD l.p 0 = 10 then tellO T 3 (atP l (l.p + 1)) (.next .bw)
  else if T.getD l.p 0 = 59 ∨ T.getD l.p 0 = 38 ∨ T.getD l.p 0 = 124 ∨ T.getD l.p 0 = 62 then
    (if foll T l.p (T.getD l.p 0) = true then tellO T 2 (atP l (l.p + 1 + 1)) (.next .bw) else tellO T 2 (atP l (l.p + 1)) (.next .bw))
  else if T.getD l.p 0 = 40 ∨ T.getD l.p 0 = 41 ∨ T.getD l.p 0 = 60 then tellO T 2 (atP l (l.p + 1)) (.next .bw)
  else .next .wd l
def step (T : Bs) : St → LS → Out
  | .bw, l => stepB T ⟨l.p, l.p, l.tk, l.op⟩
  | .wd, l => if l.p = T.length ∨ wend (T.getD l.p 0) = true then tellO T 1 l (.next .bw) else passO T .wd l
  | .db, l => if l.p = T.length then .bad 30 else if T.getD l.p 0 = 34 then leaveO l else if T.getD l.p 0 = 39 then .next .db (atP l (l.p + 1)) else passO T .db l
  | .cm, l => if l.p = T.length then .bad 30 else if T.getD l.p 0 = 40 then enterO 1 .cm .cm l else if T.getD l.p 0 = 41 then leaveO l else passO T .cm l
  | .br, l => if l.p = T.length then .bad 30 else if T.getD l.p 0 = 125 then leaveO l else passO T .br l
  | .bq, l => if l.p = T.length then .bad 30 else if T.getD l.p 0 = 96 then leaveO l else if T.getD l.p 0 = 92 then .next .bq (atP l (min (l.p + 2) T.length)) else .next .bq (atP l (l.p + 1))
/-- what comes of it: the tokens, or an error's number; none: it has no end within so many steps -/
inductive Fin where
  | toks (l : List (Nat × Bs))
  | err (n : Nat)
  | none
def run (T : Bs) : Nat → St → LS → Fin
  | 0, _, _ => .none
  | k + 1, s, l => match step T s l with
    | .next s' l' => run T k s' l'
    | .done l' => .toks l'.tk
    | .bad n => .err n
    | .stuck => .none
theorem run_next {T : Bs} {k : Nat} {s s' : St} {l l' : LS} (h : step T s l = .next s' l') : run T (k + 1) s l = run T k s' l' := by simp [run, h]
theorem run_done {T : Bs} {k : Nat} {s : St} {l l' : LS} (h : step T s l = .done l') : run T (k + 1) s l = .toks l'.tk := by simp [run, h]
theorem run_bad {T : Bs} {k : Nat} {s : St} {l : LS} {n : Nat} (h : step T s l = .bad n) : run T (k + 1) s l = .err n := by simp [run, h]
end Go.Proofs.YtcemlhfodpelaaaGreatDoor
