/- The parser of commands, over lists of tokens: of no program. -/
import Derived.Test.YtbljbhlndjhhdaaGreatDoorLx
namespace Go.Proofs.YtbljbhlndjhhdaaGreatDoor
open Go.RowKit

abbrev Tok := Nat × Bs
/-- a command -/
inductive Cd where
  | mk (kind : Nat) (not : Bool) (assigns words : List Bs) (redirs : List (Bs × Bs)) (kids : List Cd) (arms : List (List Bs × Cd))
/-- what is left, how many compounds are open, and how many were at most -/
structure PS where
  ts : List Tok
  dp : Nat
  dm : Nat
inductive PR (α : Type) where
  | ok (a : α) (s : PS)
  | bad
  | out
/-- tokens up to the end's one -/
inductive Good : List Tok → Prop where
  | last : Good [(4, [])]
  | cons (t : Tok) (r : List Tok) : t.2 ≠ [] → t.1 ≠ 4 → Good r → Good (t :: r)
def tx : List Tok → Bs
  | t :: _ => t.2
  | [] => []
def kd : List Tok → Nat
  | t :: _ => t.1
  | [] => 0
abbrev PS.nx (s : PS) : PS := ⟨s.ts.tail, s.dp, s.dm⟩
def skipL : List Tok → List Tok
  | t :: r => if t.2 = [10] then skipL r else t :: r
  | [] => []
abbrev PS.sk (s : PS) : PS := ⟨skipL s.ts, s.dp, s.dm⟩
def endsB (t : Bs) : Bool := t == [] || t == [41] || t == [59, 59] || t == [116, 104, 101, 110] || t == [101, 108, 105, 102] || t == [101, 108, 115, 101] || t == [102, 105] || t == [100, 111] || t == [100, 111, 110, 101] || t == [101, 115, 97, 99] || t == [125]
def redB (t : Bs) : Bool := t == [60] || t == [62] || t == [62, 62]
theorem Good.ne {l : List Tok} (h : Good l) : l ≠ [] := by cases h <;> simp
theorem Good.tail {l : List Tok} (h : Good l) (ht : tx l ≠ []) : Good l.tail := by
  cases h with
  | last => exact absurd rfl ht
  | cons t r h1 h2 h3 => exact h3
theorem Good.word {l : List Tok} (h : Good l) (ht : kd l = 1) : tx l ≠ [] := by
  cases h with
  | last => cases ht
  | cons t r h1 h2 h3 => exact h1
theorem Good.skip {l : List Tok} (h : Good l) : Good (skipL l) := by
  induction h with
  | last => exact .last
  | cons t r h1 h2 h3 ih =>
    unfold skipL
    split
    · exact ih
    · exact .cons t r h1 h2 h3
theorem skip_len : ∀ (l : List Tok), (skipL l).length ≤ l.length
  | [] => Nat.le_refl _
  | t :: r => by
    unfold skipL
    split
    · have := skip_len r; simp only [List.length_cons]; omega
    · exact Nat.le_refl _
/-- which form a compound has -/
inductive Fm where
  | sub | grp | cho | whl | unt | fr | cas
def formOf (t : Bs) : Option Fm :=
  if t = [40] then some .sub else if t = [123] then some .grp else if t = [105, 102] then some .cho else if t = [119, 104, 105, 108, 101] then some .whl
  else if t = [117, 110, 116, 105, 108] then some .unt else if t = [102, 111, 114] then some .fr else if t = [99, 97, 115, 101] then some .cas else none
def alphaB (c : UInt8) : Bool := c == 95 || (decide (97 ≤ c.toNat) && decide (c.toNat ≤ 122)) || (decide (65 ≤ c.toNat) && decide (c.toNat ≤ 90))
def digB (c : UInt8) : Bool := decide (48 ≤ c.toNat) && decide (c.toNat ≤ 57)
def nameB : Bs → Bool
  | [] => false
  | c :: r => alphaB c && r.all fun c => alphaB c || digB c
def assignB (w : Bs) : Bool := (Lib.cut w [61]).2.2 && nameB (Lib.cut w [61]).1
def andT {α β : Type} (r : PR α) (f : α → PS → PR β) : PR β := match r with
  | .ok a s => f a s
  | .bad => .bad
  | .out => .out
def wantP (t : Bs) (s : PS) : PR Unit := if tx s.ts = t then .ok () s.nx else .bad
def wordP (s : PS) : PR Bs := if kd s.ts = 1 then .ok (tx s.ts) s.nx else .bad
def nameP (s : PS) : PR Bs := if kd s.ts = 1 ∧ nameB (tx s.ts) = true then .ok (tx s.ts) s.nx else .bad
def redirP (s : PS) : PR (Bs × Bs) := andT (wordP s.nx) fun w s' => .ok (tx s.ts, w) s'
/-- a sep, if there is one -/
def sepP (s : PS) : Option PS := if tx s.ts = [59] ∨ tx s.ts = [10] then some s.nx.sk else none
/-- the redirections behind a compound -/
def redirsP : Nat → List (Bs × Bs) → PS → PR (List (Bs × Bs))
  | 0, _, _ => .out
  | n + 1, l, s => if redB (tx s.ts) = true then andT (redirP s) fun r s' => redirsP n (l ++ [r]) s' else .ok l s
/-- the words of a simple command: something was there? -/
def simpleP : Nat → Bool → List Bs → List Bs → List (Bs × Bs) → PS → PR Cd
  | 0, _, _, _, _, _ => .out
  | n + 1, b, ag, ws, rs, s =>
    if redB (tx s.ts) = true then andT (redirP s) fun r s' => simpleP n true ag ws (rs ++ [r]) s'
    else if kd s.ts = 1 then (if ws = [] ∧ assignB (tx s.ts) = true then simpleP n true (ag ++ [tx s.ts]) ws rs s.nx else simpleP n true ag (ws ++ [tx s.ts]) rs s.nx)
    else if b = true then .ok (.mk 1 false ag ws rs [] []) s else .bad
def aloneP : List Cd → Cd
  | [c] => c
  | l => .mk 5 false [] [] [] l []
def wordsP : Nat → List Bs → PS → PR (List Bs)
  | 0, _, _ => .out
  | n + 1, l, s => if kd s.ts = 1 then wordsP n (l ++ [tx s.ts]) s.nx else .ok l s
def patsP : Nat → List Bs → PS → PR (List Bs)
  | 0, _, _ => .out
  | n + 1, l, s => if tx s.ts = [124] then andT (wordP s.nx) fun w s' => patsP n (l ++ [w]) s' else .ok l s
/-- several commands, or one behind a !, are a pipe -/
def pipeV (b : Bool) (l : List Cd) : Cd := if l.length = 1 ∧ b = false then l.headD (.mk 2 b [] [] [] l []) else .mk 2 b [] [] [] l []
mutual
def andorsP : Nat → PS → PR (List Cd)
  | 0, _ => .out
  | n + 1, s => andT (andorP n s) fun c s' => andorsL n [c] s'
def andorsL : Nat → List Cd → PS → PR (List Cd)
  | 0, _, _ => .out
  | n + 1, l, s => match sepP s with
    | none => .ok l s
    | some s' => if endsB (tx s'.ts) = true then .ok l s' else andT (andorP n s') fun c s2 => andorsL n (l ++ [c]) s2
def andorP : Nat → PS → PR Cd
  | 0, _ => .out
  | n + 1, s => andT (pipeP n s) fun c s' => andorL n c s'
def andorL : Nat → Cd → PS → PR Cd
  | 0, _, _ => .out
  | n + 1, c, s =>
    if tx s.ts = [124, 124] then andT (pipeP n s.nx.sk) fun d s' => andorL n (.mk 4 false [] [] [] [c, d] []) s'
    else if tx s.ts = [38, 38] then andT (pipeP n s.nx.sk) fun d s' => andorL n (.mk 3 false [] [] [] [c, d] []) s'
    else .ok c s
def pipeP : Nat → PS → PR Cd
  | 0, _ => .out
  | n + 1, s => andT (commandP n (if tx s.ts = [33] then s.nx else s)) fun c s' => pipeL n (decide (tx s.ts = [33])) [c] s'
def pipeL : Nat → Bool → List Cd → PS → PR Cd
  | 0, _, _, _ => .out
  | n + 1, b, l, s => if tx s.ts = [124] then andT (commandP n s.nx.sk) fun c s' => pipeL n b (l ++ [c]) s'
    else .ok (pipeV b l) s
def commandP : Nat → PS → PR Cd
  | 0, _ => .out
  | n + 1, s => match formOf (tx s.ts) with
    | none => if endsB (tx s.ts) = true ∨ tx s.ts = [33] then .bad else simpleP n false [] [] [] s
    | some f => andT (formP n f ⟨s.ts.tail, s.dp + 1, max s.dm (s.dp + 1)⟩) fun c s' =>
      match c with
      | .mk k b ag ws rs ks ar => andT (redirsP n rs ⟨s'.ts, s'.dp - 1, s'.dm⟩) fun rs' s2 => .ok (.mk k b ag ws rs' ks ar) s2
def listP : Nat → PS → PR Cd
  | 0, _ => .out
  | n + 1, s => andT (andorsP n s.sk) fun l s' => .ok (aloneP l) s'
def lonP : Nat → PS → PR (List Cd)
  | 0, _ => .out
  | n + 1, s => if endsB (tx s.sk.ts) = true then .ok [] s.sk else andorsP n s.sk
def formP : Nat → Fm → PS → PR Cd
  | 0, _, _ => .out
  | n + 1, f, s => match f with
    | .sub => andT (listP n s) fun c s' => andT (wantP [41] s') fun _ s2 => .ok (.mk 11 false [] [] [] [c] []) s2
    | .grp => andT (listP n s) fun c s' => andT (wantP [125] s') fun _ s2 => .ok (.mk 10 false [] [] [] [c] []) s2
    | .cho => choiceP n s
    | .whl => whileP n false s
    | .unt => whileP n true s
    | .fr => andT (nameP s) fun nm s1 => andT (if tx s1.sk.ts = [105, 110] then wordsP n [nm] s1.sk.nx else .ok [nm] s1.sk) fun ws s2 =>
        andT (doP n (match sepP s2 with | some s3 => s3 | none => s2)) fun c s4 => .ok (.mk 8 false [] ws [] [c] []) s4
    | .cas => andT (wordP s) fun w s1 => andT (wantP [105, 110] s1.sk) fun _ s2 => andT (armsP n [] s2.sk) fun ar s3 => .ok (.mk 9 false [] [w] [] [] ar) s3
def choiceP : Nat → PS → PR Cd
  | 0, _ => .out
  | n + 1, s => andT (listP n s) fun a s1 => andT (wantP [116, 104, 101, 110] s1) fun _ s2 => andT (listP n s2) fun b s3 =>
    if tx s3.ts = [101, 108, 105, 102] then andT (choiceP n s3.nx) fun c s4 => .ok (.mk 6 false [] [] [] [a, b, c] []) s4
    else if tx s3.ts = [101, 108, 115, 101] then andT (listP n s3.nx) fun c s4 => andT (wantP [102, 105] s4) fun _ s5 => .ok (.mk 6 false [] [] [] [a, b, c] []) s5
    else andT (wantP [102, 105] s3) fun _ s4 => .ok (.mk 6 false [] [] [] [a, b] []) s4
def whileP : Nat → Bool → PS → PR Cd
  | 0, _, _ => .out
  | n + 1, b, s => andT (listP n s) fun a s1 => andT (doP n s1) fun c s2 => .ok (.mk 7 b [] [] [] [a, c] []) s2
def doP : Nat → PS → PR Cd
  | 0, _ => .out
  | n + 1, s => andT (wantP [100, 111] s) fun _ s1 => andT (listP n s1) fun c s2 => andT (wantP [100, 111, 110, 101] s2) fun _ s3 => .ok c s3
def armsP : Nat → List (List Bs × Cd) → PS → PR (List (List Bs × Cd))
  | 0, _, _ => .out
  | n + 1, l, s => if tx s.ts = [101, 115, 97, 99] then .ok l s.nx else andT (armP n s) fun a s' => armsP n (l ++ [a]) s'
def armP : Nat → PS → PR (List Bs × Cd)
  | 0, _ => .out
  | n + 1, s => andT (wordP (if tx s.ts = [40] then s.nx else s)) fun w s1 => andT (patsP n [w] s1) fun ps s2 => andT (wantP [41] s2) fun _ s3 =>
    andT (lonP n s3) fun l s4 => if tx s4.ts = [59, 59] then .ok (ps, aloneP l) s4.nx.sk else if tx s4.ts = [101, 115, 97, 99] then .ok (ps, aloneP l) s4 else .bad
end
/-- the script: a list's commands, or an error's number -/
inductive GR where
  | ok (l : List Cd)
  | err (n : Nat)
  | none
def scriptP (n : Nat) (ts : List Tok) : GR := match lonP n ⟨ts, 0, 0⟩ with
  | .out => .none
  | .bad => .err 31
  | .ok l s => if tx s.ts = [] then (if 60 < s.dm then .err 42 else .ok l) else .err 31
end Go.Proofs.YtbljbhlndjhhdaaGreatDoor
