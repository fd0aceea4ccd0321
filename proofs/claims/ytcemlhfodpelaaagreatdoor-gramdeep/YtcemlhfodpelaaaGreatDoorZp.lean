/- The parser of commands, over lists of tokens: of no program. What every parse keeps: plain. What a parse uses up: plain. Fuel that suffices: plain. A parse up to the end of tokens is the same where other tokens stand behind them, and other compounds around: plain. Each parse up to the end of tokens, where others stand behind: plain. More fuel never turns an answer: plain. Rows of commands one behind the other, and a list ahead of what ends it: plain. What a parse leaves is the end of what it was handed: plain. -/
import Derived.Test.YtcemlhfodpelaaaGreatDoorLx
namespace Go.Proofs.YtcemlhfodpelaaaGreatDoor
open Go.RowKit

abbrev Tok := Nat × Bs
/-- a command -/
inductive Cd where
  | mk (kind : Nat) (not : Bool) (assigns words : List Bs) (redirs : List (Bs × Bs)) (kids : List Cd) (arms : List (List Bs × Cd))
/-- what is left, how many compounds are open, and how many were at most -/
structure PS where
  ts : List Tok
  dp : Nat
  dm : Nat
inductive PR (α : Type) where
  | ok (a : α) (s : PS)
  | bad
  | out
/-- tokens up to the end's one -/
inductive Good : List Tok → Prop where
  | last : Good [(4, [])]
  | cons (t : Tok) (r : List Tok) : t.2 ≠ [] → t.1 ≠ 4 → Good r → Good (t :: r)
def tx : List Tok → Bs
  | t :: _ => t.2
  | [] => []
def kd : List Tok → Nat
  | t :: _ => t.1
  | [] => 0
abbrev PS.nx (s : PS) : PS := ⟨s.ts.tail, s.dp, s.dm⟩
def skipL : List Tok → List Tok
  | t :: r => if t.2 = [10] then skipL r else t :: r
  | [] => []
abbrev PS.sk (s : PS) : PS := ⟨skipL s.ts, s.dp, s.dm⟩
def endsB (t : Bs) : Bool := t == [] || t == [41] || t == [59, 59] || t == [116, 104, 101, 110] || t == [101, 108, 105, 102] || t == [101, 108, 115, 101] || t == [102, 105] || t == [100, 111] || t == [100, 111, 110, 101] || t == [101, 115, 97, 99] || t == [125]
def redB (t : Bs) : Bool := t == [60] || t == [62] || t == [62, 62]
theorem Good.ne {l : List Tok} (h : Good l) : l ≠ [] := by cases h <;> simp
theorem Good.tail {l : List Tok} (h : Good l) (ht : tx l ≠ []) : Good l.tail := by
  cases h with
  | last => exact absurd rfl ht
  | cons t r h1 h2 h3 => exact h3
theorem Good.word {l : List Tok} (h : Good l) (ht : kd l = 1) : tx l ≠ [] := by
  cases h with
  | last => cases ht
  | cons t r h1 h2 h3 => exact h1
theorem Good.skip {l : List Tok} (h : Good l) : Good (skipL l) := by
  induction h with
  | last => exact .last
  | cons t r h1 h2 h3 ih =>
    unfold skipL
    split
    · exact ih
    · exact .cons t r h1 h2 h3
theorem skip_len : ∀ (l : List Tok), (skipL l).length ≤ l.length
  | [] => Nat.le_refl _
  | t :: r => by
    unfold skipL
    split
    · have := skip_len r; simp only [List.length_cons]; omega
    · exact Nat.le_refl _
/-- which form a compound has -/
inductive Fm where
  | sub | grp | cho | whl | unt | fr | cas
def formOf (t : Bs) : Option Fm :=
  if t = [40] then some .sub else if t = [123] then some .grp else if t = [105, 102] then some .cho else if t = [119, 104, 105, 108, 101] then some .whl
  else if t = [117, 110, 116, 105, 108] then some .unt else if t = [102, 111, 114] then some .fr else if t = [99, 97, 115, 101] then some .cas else none
def alphaB (c : UInt8) : Bool := c == 95 || (decide (97 ≤ c.toNat) && decide (c.toNat ≤ 122)) || (decide (65 ≤ c.toNat) && decide (c.toNat ≤ 90))
def digB (c : UInt8) : Bool := decide (48 ≤ c.toNat) && decide (c.toNat ≤ 57)
def nameB : Bs → Bool
  | [] => false
  | c :: r => alphaB c && r.all fun c => alphaB c || digB c
def assignB (w : Bs) : Bool := (Lib.cut w [61]).2.2 && nameB (Lib.cut w [61]).1
def andT {α β : Type} (r : PR α) (f : α → PS → PR β) : PR β := match r with
  | .ok a s => f a s
  | .bad => .bad
  | .out => .out
def wantP (t : Bs) (s : PS) : PR Unit := if tx s.ts = t then .ok () s.nx else .bad
def wordP (s : PS) : PR Bs := if kd s.ts = 1 then .ok (tx s.ts) s.nx else .bad
def nameP (s : PS) : PR Bs := if kd s.ts = 1 ∧ nameB (tx s.ts) = true then .ok (tx s.ts) s.nx else .bad
def redirP (s : PS) : PR (Bs × Bs) := andT (wordP s.nx) fun w s' => .ok (tx s.ts, w) s'
/-- a sep, if there is one -/
def sepP (s : PS) : Option PS := if tx s.ts = [59] ∨ tx s.ts = [10] then some s.nx.sk else none
/-- the redirections behind a compound -/
def redirsP : Nat → List (Bs × Bs) → PS → PR (List (Bs × Bs))
  | 0, _, _ => .out
  | n + 1, l, s => if redB (tx s.ts) = true then andT (redirP s) fun r s' => redirsP n (l ++ [r]) s' else .ok l s
/-- the words of a simple command: something was there? -/
def simpleP : Nat → Bool → List Bs → List Bs → List (Bs × Bs) → PS → PR Cd
  | 0, _, _, _, _, _ => .out
  | n + 1, b, ag, ws, rs, s =>
    if redB (tx s.ts) = true then andT (redirP s) fun r s' => simpleP n true ag ws (rs ++ [r]) s'
    else if kd s.ts = 1 then (if ws = [] ∧ assignB (tx s.ts) = true then simpleP n true (ag ++ [tx s.ts]) ws rs s.nx else simpleP n true ag (ws ++ [tx s.ts]) rs s.nx)
    else if b = true then .ok (.mk 1 false ag ws rs [] []) s else .bad
def aloneP : List Cd → Cd
  | [c] => c
  | l => .mk 5 false [] [] [] l []
def wordsP : Nat → List Bs → PS → PR (List Bs)
  | 0, _, _ => .out
  | n + 1, l, s => if kd s.ts = 1 then wordsP n (l ++ [tx s.ts]) s.nx else .ok l s
def patsP : Nat → List Bs → PS → PR (List Bs)
  | 0, _, _ => .out
  | n + 1, l, s => if tx s.ts = [124] then andT (wordP s.nx) fun w s' => patsP n (l ++ [w]) s' else .ok l s
/-- several commands, or one behind a !, are a pipe -/
def pipeV (b : Bool) (l : List Cd) : Cd := if l.length = 1 ∧ b = false then l.headD (.mk 2 b [] [] [] l []) else .mk 2 b [] [] [] l []
mutual
def andorsP : Nat → PS → PR (List Cd)
  | 0, _ => .out
  | n + 1, s => andT (andorP n s) fun c s' => andorsL n [c] s'
def andorsL : Nat → List Cd → PS → PR (List Cd)
  | 0, _, _ => .out
  | n + 1, l, s => match sepP s with
    | none => .ok l s
    | some s' => if endsB (tx s'.ts) = true then .ok l s' else andT (andorP n s') fun c s2 => andorsL n (l ++ [c]) s2
def andorP : Nat → PS → PR Cd
  | 0, _ => .out
  | n + 1, s => andT (pipeP n s) fun c s' => andorL n c s'
def andorL : Nat → Cd → PS → PR Cd
  | 0, _, _ => .out
  | n + 1, c, s =>
    if tx s.ts = [124, 124] then andT (pipeP n s.nx.sk) fun d s' => andorL n (.mk 4 false [] [] [] [c, d] []) s'
    else if tx s.ts = [38, 38] then andT (pipeP n s.nx.sk) fun d s' => andorL n (.mk 3 false [] [] [] [c, d] []) s'
    else .ok c s
def pipeP : Nat → PS → PR Cd
  | 0, _ => .out
  | n + 1, s => andT (commandP n (if tx s.ts = [33] then s.nx else s)) fun c s' => pipeL n (decide (tx s.ts = [33])) [c] s'
def pipeL : Nat → Bool → List Cd → PS → PR Cd
  | 0, _, _, _ => .out
  | n + 1, b, l, s => if tx s.ts = [124] then andT (commandP n s.nx.sk) fun c s' => pipeL n b (l ++ [c]) s'
    else .ok (pipeV b l) s
def commandP : Nat → PS → PR Cd
  | 0, _ => .out
  | n + 1, s => match formOf (tx s.ts) with
    | none => if endsB (tx s.ts) = true ∨ tx s.ts = [33] then .bad else simpleP n false [] [] [] s
    | some f => andT (formP n f ⟨s.ts.tail, s.dp + 1, max s.dm (s.dp + 1)⟩) fun c s' =>
      match c with
      | .mk k b ag ws rs ks ar => andT (redirsP n rs ⟨s'.ts, s'.dp - 1, s'.dm⟩) fun rs' s2 => .ok (.mk k b ag ws rs' ks ar) s2
def listP : Nat → PS → PR Cd
  | 0, _ => .out
  | n + 1, s => andT (andorsP n s.sk) fun l s' => .ok (aloneP l) s'
def lonP : Nat → PS → PR (List Cd)
  | 0, _ => .out
  | n + 1, s => if endsB (tx s.sk.ts) = true then .ok [] s.sk else andorsP n s.sk
def formP : Nat → Fm → PS → PR Cd
  | 0, _, _ => .out
  | n + 1, f, s => match f with
    | .sub => andT (listP n s) fun c s' => andT (wantP [41] s') fun _ s2 => .ok (.mk 11 false [] [] [] [c] []) s2
    | .grp => andT (listP n s) fun c s' => andT (wantP [125] s') fun _ s2 => .ok (.mk 10 false [] [] [] [c] []) s2
    | .cho => choiceP n s
    | .whl => whileP n false s
    | .unt => whileP n true s
    | .fr => andT (nameP s) fun nm s1 => andT (if tx s1.sk.ts = [105, 110] then wordsP n [nm] s1.sk.nx else .ok [nm] s1.sk) fun ws s2 =>
        andT (doP n (match sepP s2 with | some s3 => s3 | none => s2)) fun c s4 => .ok (.mk 8 false [] ws [] [c] []) s4
    | .cas => andT (wordP s) fun w s1 => andT (wantP [105, 110] s1.sk) fun _ s2 => andT (armsP n [] s2.sk) fun ar s3 => .ok (.mk 9 false [] [w] [] [] ar) s3
def choiceP : Nat → PS → PR Cd
  | 0, _ => .out
  | n + 1, s => andT (listP n s) fun a s1 => andT (wantP [116, 104, 101, 110] s1) fun _ s2 => andT (listP n s2) fun b s3 =>
    if tx s3.ts = [101, 108, 105, 102] then andT (choiceP n s3.nx) fun c s4 => .ok (.mk 6 false [] [] [] [a, b, c] []) s4
    else if tx s3.ts = [101, 108, 115, 101] then andT (listP n s3.nx) fun c s4 => andT (wantP [102, 105] s4) fun _ s5 => .ok (.mk 6 false [] [] [] [a, b, c] []) s5
    else andT (wantP [102, 105] s3) fun _ s4 => .ok (.mk 6 false [] [] [] [a, b] []) s4
def whileP : Nat → Bool → PS → PR Cd
  | 0, _, _ => .out
  | n + 1, b, s => andT (listP n s) fun a s1 => andT (doP n s1) fun c s2 => .ok (.mk 7 b [] [] [] [a, c] []) s2
def doP : Nat → PS → PR Cd
  | 0, _ => .out
  | n + 1, s => andT (wantP [100, 111] s) fun _ s1 => andT (listP n s1) fun c s2 => andT (wantP [100, 111, 110, 101] s2) fun _ s3 => .ok c s3
def armsP : Nat → List (List Bs × Cd) → PS → PR (List (List Bs × Cd))
  | 0, _, _ => .out
  | n + 1, l, s => if tx s.ts = [101, 115, 97, 99] then .ok l s.nx else andT (armP n s) fun a s' => armsP n (l ++ [a]) s'
def armP : Nat → PS → PR (List Bs × Cd)
  | 0, _ => .out
  | n + 1, s => andT (wordP (if tx s.ts = [40] then s.nx else s)) fun w s1 => andT (patsP n [w] s1) fun ps s2 => andT (wantP [41] s2) fun _ s3 =>
    andT (lonP n s3) fun l s4 => if tx s4.ts = [59, 59] then .ok (ps, aloneP l) s4.nx.sk else if tx s4.ts = [101, 115, 97, 99] then .ok (ps, aloneP l) s4 else .bad
end
/-- the script: a list's commands, or an error's number -/
inductive GR where
  | ok (l : List Cd)
  | err (n : Nat)
  | none
def scriptP (n : Nat) (ts : List Tok) : GR := match lonP n ⟨ts, 0, 0⟩ with
  | .out => .none
  | .bad => .err 31
  | .ok l s => if tx s.ts = [] then (if 60 < s.dm then .err 42 else .ok l) else .err 31
end Go.Proofs.YtcemlhfodpelaaaGreatDoor
namespace Go.Proofs.YtcemlhfodpelaaaGreatDoor
open Go.RowKit

theorem andT_ok {α β : Type} {r : PR α} {f : α → PS → PR β} {b : β} {s : PS} (h : andT r f = .ok b s) : ∃ a s1, r = .ok a s1 ∧ f a s1 = .ok b s := by
  cases r with
  | ok a s1 => exact ⟨a, s1, rfl, h⟩
  | bad => cases h
  | out => cases h
theorem want_dp {t : Bs} {s s' : PS} {u : Unit} (h : wantP t s = .ok u s') : s'.dp = s.dp := by
  unfold wantP at h
  split at h
  · cases h; rfl
  · cases h
theorem word_dp {s s' : PS} {u : Bs} (h : wordP s = .ok u s') : s'.dp = s.dp := by
  unfold wordP at h
  split at h
  · cases h; rfl
  · cases h
theorem name_dp {s s' : PS} {u : Bs} (h : nameP s = .ok u s') : s'.dp = s.dp := by
  unfold nameP at h
  split at h
  · cases h; rfl
  · cases h
theorem redir_dp {s s' : PS} {u : Bs × Bs} (h : redirP s = .ok u s') : s'.dp = s.dp := by
  unfold redirP at h
  obtain ⟨a, s1, h1, h2⟩ := andT_ok h
  cases h2
  exact (word_dp h1 :)
theorem redirs_dp : ∀ (n : Nat) {l r : List (Bs × Bs)} {s s' : PS}, redirsP n l s = .ok r s' → s'.dp = s.dp
  | 0, _, _, _, _, h => by cases h
  | n + 1, l, r, s, s', h => by
    rw [redirsP] at h
    split at h
    · obtain ⟨a, s1, h1, h2⟩ := andT_ok h
      exact (redirs_dp n h2).trans (redir_dp h1 :)
    · cases h; rfl
theorem simple_dp : ∀ (n : Nat) {b : Bool} {ag ws : List Bs} {rs : List (Bs × Bs)} {c : Cd} {s s' : PS}, simpleP n b ag ws rs s = .ok c s' → s'.dp = s.dp
  | 0, _, _, _, _, _, _, _, h => by cases h
  | n + 1, b, ag, ws, rs, c, s, s', h => by
    rw [simpleP] at h
    split at h
    · obtain ⟨a, s1, h1, h2⟩ := andT_ok h
      exact (simple_dp n h2).trans (redir_dp h1 :)
    · split at h
      · split at h
        · exact (simple_dp n h :)
        · exact (simple_dp n h :)
      · split at h
        · cases h; rfl
        · cases h
theorem words_dp : ∀ (n : Nat) {l r : List Bs} {s s' : PS}, wordsP n l s = .ok r s' → s'.dp = s.dp
  | 0, _, _, _, _, h => by cases h
  | n + 1, l, r, s, s', h => by
    rw [wordsP] at h
    split at h
    · exact (words_dp n h :)
    · cases h; rfl
theorem pats_dp : ∀ (n : Nat) {l r : List Bs} {s s' : PS}, patsP n l s = .ok r s' → s'.dp = s.dp
  | 0, _, _, _, _, h => by cases h
  | n + 1, l, r, s, s', h => by
    rw [patsP] at h
    split at h
    · obtain ⟨a, s1, h1, h2⟩ := andT_ok h
      exact (pats_dp n h2).trans (word_dp h1 :)
    · cases h; rfl
theorem sep_dp {s s' : PS} (h : sepP s = some s') : s'.dp = s.dp := by
  unfold sepP at h
  split at h
  · cases h; rfl
  · cases h
structure Dps (n : Nat) : Prop where
  andors : ∀ {s l s'}, andorsP n s = .ok l s' → s'.dp = s.dp
  andorsl : ∀ {k s l s'}, andorsL n k s = .ok l s' → s'.dp = s.dp
  andor : ∀ {s l s'}, andorP n s = .ok l s' → s'.dp = s.dp
  andorl : ∀ {k s l s'}, andorL n k s = .ok l s' → s'.dp = s.dp
  pipe : ∀ {s l s'}, pipeP n s = .ok l s' → s'.dp = s.dp
  pipel : ∀ {b k s l s'}, pipeL n b k s = .ok l s' → s'.dp = s.dp
  command : ∀ {s l s'}, commandP n s = .ok l s' → s'.dp = s.dp
  list : ∀ {s l s'}, listP n s = .ok l s' → s'.dp = s.dp
  lon : ∀ {s l s'}, lonP n s = .ok l s' → s'.dp = s.dp
  form : ∀ {f s l s'}, formP n f s = .ok l s' → s'.dp = s.dp
  choice : ∀ {s l s'}, choiceP n s = .ok l s' → s'.dp = s.dp
  while_ : ∀ {b s l s'}, whileP n b s = .ok l s' → s'.dp = s.dp
  do_ : ∀ {s l s'}, doP n s = .ok l s' → s'.dp = s.dp
  arms : ∀ {k s l s'}, armsP n k s = .ok l s' → s'.dp = s.dp
  arm : ∀ {s l s'}, armP n s = .ok l s' → s'.dp = s.dp
theorem dps : ∀ n, Dps n
  | 0 => by constructor <;> (intros; rename_i h; cases h)
  | n + 1 => by
    have ih := dps n
    constructor
    · intro s l s' h
      rw [andorsP] at h
      obtain ⟨a, s1, h1, h2⟩ := andT_ok h
      exact (ih.andorsl h2).trans (ih.andor h1 :)
    · intro k s l s' h
      rw [andorsL] at h
      split at h
      · cases h; rfl
      · rename_i s1 hs
        split at h
        · cases h; exact sep_dp hs
        · obtain ⟨a, s2, h1, h2⟩ := andT_ok h
          exact ((ih.andorsl h2).trans (ih.andor h1 :)).trans (sep_dp hs)
    · intro s l s' h
      rw [andorP] at h
      obtain ⟨a, s1, h1, h2⟩ := andT_ok h
      exact (ih.andorl h2).trans (ih.pipe h1 :)
    · intro k s l s' h
      rw [andorL] at h
      split at h
      · obtain ⟨a, s1, h1, h2⟩ := andT_ok h
        exact (ih.andorl h2).trans (ih.pipe h1 :)
      · split at h
        · obtain ⟨a, s1, h1, h2⟩ := andT_ok h
          exact (ih.andorl h2).trans (ih.pipe h1 :)
        · cases h; rfl
    · intro s l s' h
      rw [pipeP] at h
      obtain ⟨a, s1, h1, h2⟩ := andT_ok h
      refine (ih.pipel h2).trans ((ih.command h1).trans ?_)
      split <;> rfl
    · intro b k s l s' h
      rw [pipeL] at h
      split at h
      · obtain ⟨a, s1, h1, h2⟩ := andT_ok h
        exact (ih.pipel h2).trans (ih.command h1 :)
      · cases h; rfl
    · intro s l s' h
      rw [commandP] at h
      split at h
      · split at h
        · cases h
        · exact (simple_dp n h :)
      · obtain ⟨a, s1, h1, h2⟩ := andT_ok h
        obtain ⟨k, b, ag, ws, rs, ks, ar⟩ := a
        dsimp only at h2
        obtain ⟨a2, s2, h3, h4⟩ := andT_ok h2
        cases h4
        have e1 := redirs_dp n h3
        have e2 := ih.form h1
        simp only at e1 e2
        omega
    · intro s l s' h
      rw [listP] at h
      obtain ⟨a, s1, h1, h2⟩ := andT_ok h
      cases h2
      exact (ih.andors h1 :)
    · intro s l s' h
      rw [lonP] at h
      split at h
      · cases h; rfl
      · exact (ih.andors h :)
    · intro f s l s' h
      cases f with
      | sub =>
        rw [formP] at h
        obtain ⟨a, s1, h1, h2⟩ := andT_ok h
        obtain ⟨a2, s2, h3, h4⟩ := andT_ok h2
        cases h4
        exact (want_dp h3).trans (ih.list h1)
      | grp =>
        rw [formP] at h
        obtain ⟨a, s1, h1, h2⟩ := andT_ok h
        obtain ⟨a2, s2, h3, h4⟩ := andT_ok h2
        cases h4
        exact (want_dp h3).trans (ih.list h1)
      | cho => rw [formP] at h; exact ih.choice h
      | whl => rw [formP] at h; exact ih.while_ h
      | unt => rw [formP] at h; exact ih.while_ h
      | fr =>
        rw [formP] at h
        obtain ⟨a, s1, h1, h2⟩ := andT_ok h
        obtain ⟨a2, s2, h3, h4⟩ := andT_ok h2
        obtain ⟨a3, s3, h5, h6⟩ := andT_ok h4
        cases h6
        have e1 := name_dp h1
        have e2 : s2.dp = s1.dp := by
          split at h3
          · exact (words_dp n h3 :)
          · cases h3; rfl
        have e3 := ih.do_ h5
        rw [e3]
        split
        · rename_i s4 hs; rw [sep_dp hs, e2, e1]
        · rw [e2, e1]
      | cas =>
        rw [formP] at h
        obtain ⟨a, s1, h1, h2⟩ := andT_ok h
        obtain ⟨a2, s2, h3, h4⟩ := andT_ok h2
        obtain ⟨a3, s3, h5, h6⟩ := andT_ok h4
        cases h6
        exact (ih.arms h5).trans ((want_dp h3).trans (word_dp h1 :))
    · intro s l s' h
      rw [choiceP] at h
      obtain ⟨a, s1, h1, h2⟩ := andT_ok h
      obtain ⟨a2, s2, h3, h4⟩ := andT_ok h2
      obtain ⟨a3, s3, h5, h6⟩ := andT_ok h4
      have e : s3.dp = s.dp := (ih.list h5).trans ((want_dp h3).trans (ih.list h1))
      split at h6
      · obtain ⟨a4, s4, h7, h8⟩ := andT_ok h6
        cases h8
        exact (ih.choice h7).trans e
      · split at h6
        · obtain ⟨a4, s4, h7, h8⟩ := andT_ok h6
          obtain ⟨a5, s5, h9, h10⟩ := andT_ok h8
          cases h10
          exact (want_dp h9).trans ((ih.list h7).trans e)
        · obtain ⟨a4, s4, h7, h8⟩ := andT_ok h6
          cases h8
          exact (want_dp h7).trans e
    · intro b s l s' h
      rw [whileP] at h
      obtain ⟨a, s1, h1, h2⟩ := andT_ok h
      obtain ⟨a2, s2, h3, h4⟩ := andT_ok h2
      cases h4
      exact (ih.do_ h3).trans (ih.list h1)
    · intro s l s' h
      rw [doP] at h
      obtain ⟨a, s1, h1, h2⟩ := andT_ok h
      obtain ⟨a2, s2, h3, h4⟩ := andT_ok h2
      obtain ⟨a3, s3, h5, h6⟩ := andT_ok h4
      cases h6
      exact (want_dp h5).trans ((ih.list h3).trans (want_dp h1))
    · intro k s l s' h
      rw [armsP] at h
      split at h
      · cases h; rfl
      · obtain ⟨a, s1, h1, h2⟩ := andT_ok h
        exact (ih.arms h2).trans (ih.arm h1)
    · intro s l s' h
      rw [armP] at h
      obtain ⟨a, s1, h1, h2⟩ := andT_ok h
      obtain ⟨a2, s2, h3, h4⟩ := andT_ok h2
      obtain ⟨a3, s3, h5, h6⟩ := andT_ok h4
      obtain ⟨a4, s4, h7, h8⟩ := andT_ok h6
      have e : s4.dp = s.dp := by
        refine (ih.lon h7).trans ((want_dp h5).trans ((pats_dp n h3).trans ((word_dp h1).trans ?_)))
        split <;> rfl
      split at h8
      · cases h8; exact e
      · split at h8
        · cases h8; exact e
        · cases h8
/-- a compound has no redirections of its own yet -/
theorem form_bare {n : Nat} {f : Fm} {s s' : PS} {c : Cd} (h : formP n f s = .ok c s') : ∃ k b ag ws ks ar, c = .mk k b ag ws [] ks ar := by
  cases n with
  | zero => cases h
  | succ n =>
    cases f with
    | sub =>
      rw [formP] at h
      obtain ⟨a, s1, h1, h2⟩ := andT_ok h
      obtain ⟨a2, s2, h3, h4⟩ := andT_ok h2
      cases h4; exact ⟨_, _, _, _, _, _, rfl⟩
    | grp =>
      rw [formP] at h
      obtain ⟨a, s1, h1, h2⟩ := andT_ok h
      obtain ⟨a2, s2, h3, h4⟩ := andT_ok h2
      cases h4; exact ⟨_, _, _, _, _, _, rfl⟩
    | cho =>
      rw [formP] at h
      cases n with
      | zero => cases h
      | succ n =>
        rw [choiceP] at h
        obtain ⟨a, s1, h1, h2⟩ := andT_ok h
        obtain ⟨a2, s2, h3, h4⟩ := andT_ok h2
        obtain ⟨a3, s3, h5, h6⟩ := andT_ok h4
        split at h6
        · obtain ⟨a4, s4, h7, h8⟩ := andT_ok h6
          cases h8; exact ⟨_, _, _, _, _, _, rfl⟩
        · split at h6
          · obtain ⟨a4, s4, h7, h8⟩ := andT_ok h6
            obtain ⟨a5, s5, h9, h10⟩ := andT_ok h8
            cases h10; exact ⟨_, _, _, _, _, _, rfl⟩
          · obtain ⟨a4, s4, h7, h8⟩ := andT_ok h6
            cases h8; exact ⟨_, _, _, _, _, _, rfl⟩
    | whl =>
      rw [formP] at h
      cases n with
      | zero => cases h
      | succ n =>
        rw [whileP] at h
        obtain ⟨a, s1, h1, h2⟩ := andT_ok h
        obtain ⟨a2, s2, h3, h4⟩ := andT_ok h2
        cases h4; exact ⟨_, _, _, _, _, _, rfl⟩
    | unt =>
      rw [formP] at h
      cases n with
      | zero => cases h
      | succ n =>
        rw [whileP] at h
        obtain ⟨a, s1, h1, h2⟩ := andT_ok h
        obtain ⟨a2, s2, h3, h4⟩ := andT_ok h2
        cases h4; exact ⟨_, _, _, _, _, _, rfl⟩
    | fr =>
      rw [formP] at h
      obtain ⟨a, s1, h1, h2⟩ := andT_ok h
      obtain ⟨a2, s2, h3, h4⟩ := andT_ok h2
      obtain ⟨a3, s3, h5, h6⟩ := andT_ok h4
      cases h6; exact ⟨_, _, _, _, _, _, rfl⟩
    | cas =>
      rw [formP] at h
      obtain ⟨a, s1, h1, h2⟩ := andT_ok h
      obtain ⟨a2, s2, h3, h4⟩ := andT_ok h2
      obtain ⟨a3, s3, h5, h6⟩ := andT_ok h4
      cases h6; exact ⟨_, _, _, _, _, _, rfl⟩
end Go.Proofs.YtcemlhfodpelaaaGreatDoor
namespace Go.Proofs.YtcemlhfodpelaaaGreatDoor
open Go.RowKit

abbrev ln (s : PS) : Nat := s.ts.length
theorem ln_nx (s : PS) : ln s.nx = ln s - 1 := by simp [ln]
theorem ln_sk (s : PS) : ln s.sk ≤ ln s := skip_len _
theorem ln_tx {s : PS} {t : Bs} (h : tx s.ts = t) (ht : t ≠ []) : 0 < ln s := by
  cases hs : s.ts with
  | nil => rw [hs] at h; exact absurd h.symm ht
  | cons a r => simp [ln, hs]
theorem ln_kd {s : PS} (h : kd s.ts = 1) : 0 < ln s := by
  cases hs : s.ts with
  | nil => rw [hs] at h; cases h
  | cons a r => simp [ln, hs]
theorem ln_red {s : PS} (h : redB (tx s.ts) = true) : 0 < ln s := by
  cases hs : s.ts with
  | nil => rw [hs] at h; simp [tx, redB] at h
  | cons a r => simp [ln, hs]
theorem ln_form {s : PS} {f : Fm} (h : formOf (tx s.ts) = some f) : 0 < ln s := by
  cases hs : s.ts with
  | nil => rw [hs] at h; simp [tx, formOf] at h
  | cons a r => simp [ln, hs]
theorem want_ln {t : Bs} {s s' : PS} {u : Unit} (ht : t ≠ []) (h : wantP t s = .ok u s') : ln s' < ln s := by
  unfold wantP at h
  split at h
  · rename_i he
    cases h
    have := ln_tx he ht
    rw [ln_nx]; omega
  · cases h
theorem word_ln {s s' : PS} {u : Bs} (h : wordP s = .ok u s') : ln s' < ln s := by
  unfold wordP at h
  split at h
  · rename_i he
    cases h
    have := ln_kd he
    rw [ln_nx]; omega
  · cases h
theorem name_ln {s s' : PS} {u : Bs} (h : nameP s = .ok u s') : ln s' < ln s := by
  unfold nameP at h
  split at h
  · rename_i he
    cases h
    have := ln_kd he.1
    rw [ln_nx]; omega
  · cases h
theorem redir_ln {s s' : PS} {u : Bs × Bs} (h : redirP s = .ok u s') : ln s' < ln s := by
  unfold redirP at h
  obtain ⟨a, s1, h1, h2⟩ := andT_ok h
  cases h2
  have := word_ln h1
  have := ln_nx s
  omega
theorem redirs_ln : ∀ (n : Nat) {l r : List (Bs × Bs)} {s s' : PS}, redirsP n l s = .ok r s' → ln s' ≤ ln s
  | 0, _, _, _, _, h => by cases h
  | n + 1, l, r, s, s', h => by
    rw [redirsP] at h
    split at h
    · obtain ⟨a, s1, h1, h2⟩ := andT_ok h
      have := redirs_ln n h2
      have := redir_ln h1
      omega
    · cases h; exact Nat.le_refl _
theorem simple_ln : ∀ (n : Nat) {b : Bool} {ag ws : List Bs} {rs : List (Bs × Bs)} {c : Cd} {s s' : PS}, simpleP n b ag ws rs s = .ok c s' → ln s' ≤ ln s ∧ (b = false → ln s' < ln s)
  | 0, _, _, _, _, _, _, _, h => by cases h
  | n + 1, b, ag, ws, rs, c, s, s', h => by
    rw [simpleP] at h
    split at h
    · obtain ⟨a, s1, h1, h2⟩ := andT_ok h
      have := simple_ln n h2
      have := redir_ln h1
      exact ⟨by omega, fun _ => by omega⟩
    · split at h
      · rename_i hk
        have h0 := ln_kd hk
        have h1 := ln_nx s
        split at h
        · have := simple_ln n h
          exact ⟨by omega, fun _ => by omega⟩
        · have := simple_ln n h
          exact ⟨by omega, fun _ => by omega⟩
      · split at h
        · rename_i hb
          cases h
          exact ⟨Nat.le_refl _, fun e => by rw [hb] at e; cases e⟩
        · cases h
theorem words_ln : ∀ (n : Nat) {l r : List Bs} {s s' : PS}, wordsP n l s = .ok r s' → ln s' ≤ ln s
  | 0, _, _, _, _, h => by cases h
  | n + 1, l, r, s, s', h => by
    rw [wordsP] at h
    split at h
    · have := words_ln n h
      have := ln_nx s
      omega
    · cases h; exact Nat.le_refl _
theorem pats_ln : ∀ (n : Nat) {l r : List Bs} {s s' : PS}, patsP n l s = .ok r s' → ln s' ≤ ln s
  | 0, _, _, _, _, h => by cases h
  | n + 1, l, r, s, s', h => by
    rw [patsP] at h
    split at h
    · obtain ⟨a, s1, h1, h2⟩ := andT_ok h
      have := pats_ln n h2
      have := word_ln h1
      have := ln_nx s
      omega
    · cases h; exact Nat.le_refl _
theorem sep_ln {s s' : PS} (h : sepP s = some s') : ln s' < ln s := by
  unfold sepP at h
  split at h
  · rename_i he
    cases h
    have h0 : 0 < ln s := by
      rcases he with he | he
      · exact ln_tx he (by simp)
      · exact ln_tx he (by simp)
    have := ln_sk s.nx
    have := ln_nx s
    omega
  · cases h
structure Lns (n : Nat) : Prop where
  andors : ∀ {s l s'}, andorsP n s = .ok l s' → ln s' < ln s
  andorsl : ∀ {k s l s'}, andorsL n k s = .ok l s' → ln s' ≤ ln s
  andor : ∀ {s l s'}, andorP n s = .ok l s' → ln s' < ln s
  andorl : ∀ {k s l s'}, andorL n k s = .ok l s' → ln s' ≤ ln s
  pipe : ∀ {s l s'}, pipeP n s = .ok l s' → ln s' < ln s
  pipel : ∀ {b k s l s'}, pipeL n b k s = .ok l s' → ln s' ≤ ln s
  command : ∀ {s l s'}, commandP n s = .ok l s' → ln s' < ln s
  list : ∀ {s l s'}, listP n s = .ok l s' → ln s' < ln s
  lon : ∀ {s l s'}, lonP n s = .ok l s' → ln s' ≤ ln s
  form : ∀ {f s l s'}, formP n f s = .ok l s' → ln s' < ln s
  choice : ∀ {s l s'}, choiceP n s = .ok l s' → ln s' < ln s
  while_ : ∀ {b s l s'}, whileP n b s = .ok l s' → ln s' < ln s
  do_ : ∀ {s l s'}, doP n s = .ok l s' → ln s' < ln s
  arms : ∀ {k s l s'}, armsP n k s = .ok l s' → ln s' < ln s
  arm : ∀ {s l s'}, armP n s = .ok l s' → ln s' < ln s
theorem lns : ∀ n, Lns n
  | 0 => by constructor <;> (intros; rename_i h; cases h)
  | n + 1 => by
    have ih := lns n
    constructor
    · intro s l s' h
      rw [andorsP] at h
      obtain ⟨a, s1, h1, h2⟩ := andT_ok h
      have := ih.andorsl h2
      have := ih.andor h1
      omega
    · intro k s l s' h
      rw [andorsL] at h
      split at h
      · cases h; exact Nat.le_refl _
      · rename_i s1 hs
        have := sep_ln hs
        split at h
        · cases h; omega
        · obtain ⟨a, s2, h1, h2⟩ := andT_ok h
          have := ih.andorsl h2
          have := ih.andor h1
          omega
    · intro s l s' h
      rw [andorP] at h
      obtain ⟨a, s1, h1, h2⟩ := andT_ok h
      have := ih.andorl h2
      have := ih.pipe h1
      omega
    · intro k s l s' h
      rw [andorL] at h
      have h8 := ln_nx s
      have h9 := ln_sk s.nx
      split at h
      · obtain ⟨a, s1, h1, h2⟩ := andT_ok h
        have := ih.andorl h2
        have := ih.pipe h1
        omega
      · split at h
        · obtain ⟨a, s1, h1, h2⟩ := andT_ok h
          have := ih.andorl h2
          have := ih.pipe h1
          omega
        · cases h; exact Nat.le_refl _
    · intro s l s' h
      rw [pipeP] at h
      obtain ⟨a, s1, h1, h2⟩ := andT_ok h
      have e1 := ih.pipel h2
      have e2 := ih.command h1
      have h8 := ln_nx s
      split at e2 <;> omega
    · intro b k s l s' h
      rw [pipeL] at h
      have h8 := ln_nx s
      have h9 := ln_sk s.nx
      split at h
      · obtain ⟨a, s1, h1, h2⟩ := andT_ok h
        have := ih.pipel h2
        have := ih.command h1
        omega
      · cases h; exact Nat.le_refl _
    · intro s l s' h
      rw [commandP] at h
      split at h
      · split at h
        · cases h
        · exact (simple_ln n h).2 rfl
      · obtain ⟨a, s1, h1, h2⟩ := andT_ok h
        obtain ⟨k, b, ag, ws, rs, ks, ar⟩ := a
        dsimp only at h2
        obtain ⟨a2, s2, h3, h4⟩ := andT_ok h2
        cases h4
        have e1 := redirs_ln n h3
        have e2 := ih.form h1
        have e3 : s.ts.tail.length = s.ts.length - 1 := by simp
        simp only [ln] at *
        omega
    · intro s l s' h
      rw [listP] at h
      obtain ⟨a, s1, h1, h2⟩ := andT_ok h
      cases h2
      have := ih.andors h1
      have := ln_sk s
      omega
    · intro s l s' h
      rw [lonP] at h
      have := ln_sk s
      split at h
      · cases h; omega
      · have := ih.andors h
        omega
    · intro f s l s' h
      cases f with
      | sub =>
        rw [formP] at h
        obtain ⟨a, s1, h1, h2⟩ := andT_ok h
        obtain ⟨a2, s2, h3, h4⟩ := andT_ok h2
        cases h4
        have := want_ln (by simp) h3
        have := ih.list h1
        omega
      | grp =>
        rw [formP] at h
        obtain ⟨a, s1, h1, h2⟩ := andT_ok h
        obtain ⟨a2, s2, h3, h4⟩ := andT_ok h2
        cases h4
        have := want_ln (by simp) h3
        have := ih.list h1
        omega
      | cho => rw [formP] at h; exact ih.choice h
      | whl => rw [formP] at h; exact ih.while_ h
      | unt => rw [formP] at h; exact ih.while_ h
      | fr =>
        rw [formP] at h
        obtain ⟨a, s1, h1, h2⟩ := andT_ok h
        obtain ⟨a2, s2, h3, h4⟩ := andT_ok h2
        obtain ⟨a3, s3, h5, h6⟩ := andT_ok h4
        cases h6
        have e1 := name_ln h1
        have h7 := ln_sk s1
        have h8 := ln_nx s1.sk
        have e2 : ln s2 ≤ ln s1 := by
          split at h3
          · have := words_ln n h3
            omega
          · cases h3; exact h7
        have e3 := ih.do_ h5
        split at e3
        · rename_i s4 hs
          have := sep_ln hs
          omega
        · omega
      | cas =>
        rw [formP] at h
        obtain ⟨a, s1, h1, h2⟩ := andT_ok h
        obtain ⟨a2, s2, h3, h4⟩ := andT_ok h2
        obtain ⟨a3, s3, h5, h6⟩ := andT_ok h4
        cases h6
        have := ih.arms h5
        have := want_ln (by simp) h3
        have := word_ln h1
        have := ln_sk s1
        have := ln_sk s2
        omega
    · intro s l s' h
      rw [choiceP] at h
      obtain ⟨a, s1, h1, h2⟩ := andT_ok h
      obtain ⟨a2, s2, h3, h4⟩ := andT_ok h2
      obtain ⟨a3, s3, h5, h6⟩ := andT_ok h4
      have e1 := ih.list h5
      have e2 := want_ln (by simp) h3
      have e3 := ih.list h1
      have h8 := ln_nx s3
      split at h6
      · obtain ⟨a4, s4, h7, h8⟩ := andT_ok h6
        cases h8
        have := ih.choice h7
        omega
      · split at h6
        · obtain ⟨a4, s4, h7, h8⟩ := andT_ok h6
          obtain ⟨a5, s5, h9, h10⟩ := andT_ok h8
          cases h10
          have := want_ln (by simp) h9
          have := ih.list h7
          omega
        · obtain ⟨a4, s4, h7, h8⟩ := andT_ok h6
          cases h8
          have := want_ln (by simp) h7
          omega
    · intro b s l s' h
      rw [whileP] at h
      obtain ⟨a, s1, h1, h2⟩ := andT_ok h
      obtain ⟨a2, s2, h3, h4⟩ := andT_ok h2
      cases h4
      have := ih.do_ h3
      have := ih.list h1
      omega
    · intro s l s' h
      rw [doP] at h
      obtain ⟨a, s1, h1, h2⟩ := andT_ok h
      obtain ⟨a2, s2, h3, h4⟩ := andT_ok h2
      obtain ⟨a3, s3, h5, h6⟩ := andT_ok h4
      cases h6
      have := want_ln (by simp) h5
      have := ih.list h3
      have := want_ln (by simp) h1
      omega
    · intro k s l s' h
      rw [armsP] at h
      split at h
      · rename_i he
        cases h
        have := ln_tx he (by simp)
        have := ln_nx s
        omega
      · obtain ⟨a, s1, h1, h2⟩ := andT_ok h
        have := ih.arms h2
        have := ih.arm h1
        omega
    · intro s l s' h
      rw [armP] at h
      obtain ⟨a, s1, h1, h2⟩ := andT_ok h
      obtain ⟨a2, s2, h3, h4⟩ := andT_ok h2
      obtain ⟨a3, s3, h5, h6⟩ := andT_ok h4
      obtain ⟨a4, s4, h7, h8⟩ := andT_ok h6
      have e1 := ih.lon h7
      have e2 := want_ln (by simp) h5
      have e3 := pats_ln n h3
      have e4 := word_ln h1
      have e5 := ln_nx s
      have e6 : ln s1 < ln s := by
        split at e4 <;> omega
      have e7 := ln_nx s4
      have e8 := ln_sk s4.nx
      split at h8
      · cases h8; omega
      · split at h8
        · cases h8; omega
        · cases h8
end Go.Proofs.YtcemlhfodpelaaaGreatDoor
namespace Go.Proofs.YtcemlhfodpelaaaGreatDoor
open Go.RowKit

theorem andT_no {α β : Type} {r : PR α} {f : α → PS → PR β} (h : r ≠ .out) (hf : ∀ a s, r = .ok a s → f a s ≠ .out) : andT r f ≠ .out := by
  cases r with
  | ok a s1 => exact hf a s1 rfl
  | bad => exact fun e => by cases e
  | out => exact absurd rfl h
theorem ok_no {α : Type} {a : α} {s : PS} : (PR.ok a s : PR α) ≠ .out := fun e => by cases e
theorem bad_no {α : Type} : (PR.bad : PR α) ≠ .out := fun e => by cases e
theorem want_out (t : Bs) (s : PS) : wantP t s ≠ .out := by
  unfold wantP; split
  · exact ok_no
  · exact bad_no
theorem word_out (s : PS) : wordP s ≠ .out := by
  unfold wordP; split
  · exact ok_no
  · exact bad_no
theorem name_out (s : PS) : nameP s ≠ .out := by
  unfold nameP; split
  · exact ok_no
  · exact bad_no
theorem redir_out (s : PS) : redirP s ≠ .out := andT_no (word_out _) fun _ _ _ => ok_no
theorem redirs_out : ∀ (n : Nat) (l : List (Bs × Bs)) (s : PS), ln s + 1 ≤ n → redirsP n l s ≠ .out
  | 0, _, _, h => by omega
  | n + 1, l, s, h => by
    rw [redirsP]
    split
    · exact andT_no (redir_out s) fun a s1 h1 => redirs_out n _ _ (by have := redir_ln h1; omega)
    · exact ok_no
theorem simple_out : ∀ (n : Nat) (b : Bool) (ag ws : List Bs) (rs : List (Bs × Bs)) (s : PS), ln s + 1 ≤ n → simpleP n b ag ws rs s ≠ .out
  | 0, _, _, _, _, _, h => by omega
  | n + 1, b, ag, ws, rs, s, h => by
    rw [simpleP]
    split
    · exact andT_no (redir_out s) fun a s1 h1 => simple_out n _ _ _ _ _ (by have := redir_ln h1; omega)
    · split
      · rename_i hk
        have h0 := ln_kd hk
        have h1 := ln_nx s
        split
        · exact simple_out n _ _ _ _ _ (by omega)
        · exact simple_out n _ _ _ _ _ (by omega)
      · split
        · exact ok_no
        · exact bad_no
theorem words_out : ∀ (n : Nat) (l : List Bs) (s : PS), ln s + 1 ≤ n → wordsP n l s ≠ .out
  | 0, _, _, h => by omega
  | n + 1, l, s, h => by
    rw [wordsP]
    split
    · rename_i hk
      have h0 := ln_kd hk
      have h1 := ln_nx s
      exact words_out n _ _ (by omega)
    · exact ok_no
theorem pats_out : ∀ (n : Nat) (l : List Bs) (s : PS), ln s + 1 ≤ n → patsP n l s ≠ .out
  | 0, _, _, h => by omega
  | n + 1, l, s, h => by
    rw [patsP]
    split
    · exact andT_no (word_out _) fun a s1 h1 => pats_out n _ _ (by have := word_ln h1; have := ln_nx s; omega)
    · exact ok_no
structure Nos (n : Nat) : Prop where
  andors : ∀ s, 12 * ln s + 6 ≤ n → andorsP n s ≠ .out
  andorsl : ∀ k s, 12 * ln s + 6 ≤ n → andorsL n k s ≠ .out
  andor : ∀ s, 12 * ln s + 5 ≤ n → andorP n s ≠ .out
  andorl : ∀ k s, 12 * ln s + 5 ≤ n → andorL n k s ≠ .out
  pipe : ∀ s, 12 * ln s + 4 ≤ n → pipeP n s ≠ .out
  pipel : ∀ b k s, 12 * ln s + 4 ≤ n → pipeL n b k s ≠ .out
  command : ∀ s, 12 * ln s + 3 ≤ n → commandP n s ≠ .out
  list : ∀ s, 12 * ln s + 7 ≤ n → listP n s ≠ .out
  lon : ∀ s, 12 * ln s + 7 ≤ n → lonP n s ≠ .out
  form : ∀ f s, 12 * ln s + 10 ≤ n → formP n f s ≠ .out
  choice : ∀ s, 12 * ln s + 9 ≤ n → choiceP n s ≠ .out
  while_ : ∀ b s, 12 * ln s + 9 ≤ n → whileP n b s ≠ .out
  do_ : ∀ s, 12 * ln s + 8 ≤ n → doP n s ≠ .out
  arms : ∀ k s, 12 * ln s + 9 ≤ n → armsP n k s ≠ .out
  arm : ∀ s, 12 * ln s + 8 ≤ n → armP n s ≠ .out
theorem nos : ∀ n, Nos n
  | 0 => by constructor <;> (intros; omega)
  | n + 1 => by
    have ih := nos n
    have il := lns n
    constructor
    · intro s h
      rw [andorsP]
      exact andT_no (ih.andor _ (by omega)) fun a s1 h1 => ih.andorsl _ _ (by have := il.andor h1; omega)
    · intro k s h
      rw [andorsL]
      split
      · exact ok_no
      · rename_i s1 hs
        have := sep_ln hs
        split
        · exact ok_no
        · exact andT_no (ih.andor _ (by omega)) fun a s2 h1 => ih.andorsl _ _ (by have := il.andor h1; omega)
    · intro s h
      rw [andorP]
      exact andT_no (ih.pipe _ (by omega)) fun a s1 h1 => ih.andorl _ _ (by have := il.pipe h1; omega)
    · intro k s h
      rw [andorL]
      have h8 := ln_nx s
      have h9 := ln_sk s.nx
      split
      · exact andT_no (ih.pipe _ (by omega)) fun a s1 h1 => ih.andorl _ _ (by have := il.pipe h1; omega)
      · split
        · exact andT_no (ih.pipe _ (by omega)) fun a s1 h1 => ih.andorl _ _ (by have := il.pipe h1; omega)
        · exact ok_no
    · intro s h
      rw [pipeP]
      have h8 := ln_nx s
      have h7 : ln (if tx s.ts = [33] then s.nx else s) ≤ ln s := by split <;> omega
      exact andT_no (ih.command _ (by omega)) fun a s1 h1 => ih.pipel _ _ _ (by have := il.command h1; omega)
    · intro b k s h
      rw [pipeL]
      have h8 := ln_nx s
      have h9 := ln_sk s.nx
      split
      · exact andT_no (ih.command _ (by omega)) fun a s1 h1 => ih.pipel _ _ _ (by have := il.command h1; omega)
      · exact ok_no
    · intro s h
      rw [commandP]
      split
      · split
        · exact bad_no
        · exact simple_out n _ _ _ _ _ (by omega)
      · rename_i f hf
        have h0 := ln_form hf
        have e3 : s.ts.tail.length = s.ts.length - 1 := by simp
        refine andT_no (ih.form _ _ (by simp only [ln] at *; omega)) fun a s1 h1 => ?_
        have e2 := il.form h1
        obtain ⟨k, b, ag, ws, rs, ks, ar⟩ := a
        dsimp only
        refine andT_no (redirs_out n _ _ (by simp only [ln] at *; omega)) fun a2 s2 _ => ok_no
    · intro s h
      rw [listP]
      have := ln_sk s
      exact andT_no (ih.andors _ (by omega)) fun _ _ _ => ok_no
    · intro s h
      rw [lonP]
      have := ln_sk s
      split
      · exact ok_no
      · exact ih.andors _ (by omega)
    · intro f s h
      cases f with
      | sub =>
        rw [formP]
        exact andT_no (ih.list _ (by omega)) fun _ _ _ => andT_no (want_out _ _) fun _ _ _ => ok_no
      | grp =>
        rw [formP]
        exact andT_no (ih.list _ (by omega)) fun _ _ _ => andT_no (want_out _ _) fun _ _ _ => ok_no
      | cho => rw [formP]; exact ih.choice _ (by omega)
      | whl => rw [formP]; exact ih.while_ _ _ (by omega)
      | unt => rw [formP]; exact ih.while_ _ _ (by omega)
      | fr =>
        rw [formP]
        refine andT_no (name_out s) fun a s1 h1 => ?_
        have e1 := name_ln h1
        have h7 := ln_sk s1
        have h8 := ln_nx s1.sk
        refine andT_no ?_ fun a2 s2 h3 => ?_
        · split
          · exact words_out n _ _ (by omega)
          · exact ok_no
        · have e2 : ln s2 ≤ ln s1 := by
            split at h3
            · have := words_ln n h3
              omega
            · cases h3; exact h7
          refine andT_no (ih.do_ _ ?_) fun _ _ _ => ok_no
          split
          · rename_i s4 hs
            have := sep_ln hs
            omega
          · omega
      | cas =>
        rw [formP]
        refine andT_no (word_out s) fun a s1 h1 => andT_no (want_out _ _) fun a2 s2 h3 => andT_no (ih.arms _ _ ?_) fun _ _ _ => ok_no
        have := want_ln (by simp) h3
        have := word_ln h1
        have := ln_sk s1
        have := ln_sk s2
        omega
    · intro s h
      rw [choiceP]
      refine andT_no (ih.list _ (by omega)) fun a s1 h1 => andT_no (want_out _ _) fun a2 s2 h3 => ?_
      have e2 := want_ln (by simp) h3
      have e3 := il.list h1
      refine andT_no (ih.list _ (by omega)) fun a3 s3 h5 => ?_
      have e1 := il.list h5
      have h8 := ln_nx s3
      split
      · exact andT_no (ih.choice _ (by omega)) fun _ _ _ => ok_no
      · split
        · exact andT_no (ih.list _ (by omega)) fun _ _ _ => andT_no (want_out _ _) fun _ _ _ => ok_no
        · exact andT_no (want_out _ _) fun _ _ _ => ok_no
    · intro b s h
      rw [whileP]
      exact andT_no (ih.list _ (by omega)) fun a s1 h1 => andT_no (ih.do_ _ (by have := il.list h1; omega)) fun _ _ _ => ok_no
    · intro s h
      rw [doP]
      exact andT_no (want_out _ _) fun a s1 h1 => andT_no (ih.list _ (by have := want_ln (by simp) h1; omega)) fun _ _ _ => andT_no (want_out _ _) fun _ _ _ => ok_no
    · intro k s h
      rw [armsP]
      split
      · exact ok_no
      · exact andT_no (ih.arm _ (by omega)) fun a s1 h1 => ih.arms _ _ (by have := il.arm h1; omega)
    · intro s h
      rw [armP]
      have e5 := ln_nx s
      have e6 : ln (if tx s.ts = [40] then s.nx else s) ≤ ln s := by split <;> omega
      refine andT_no (word_out _) fun a s1 h1 => ?_
      have e4 := word_ln h1
      refine andT_no (pats_out n _ _ (by omega)) fun a2 s2 h3 => ?_
      have e3 := pats_ln n h3
      refine andT_no (want_out _ _) fun a3 s3 h5 => ?_
      have e2 := want_ln (by simp) h5
      refine andT_no (ih.lon _ (by omega)) fun a4 s4 h7 => ?_
      split
      · exact ok_no
      · split
        · exact ok_no
        · exact bad_no
/-- fuel of a hundred thousand is enough for every row of tokens that the lexer may tell -/
theorem script_some {tk : List Tok} (h : tk.length ≤ 5000) : scriptP 100000 tk ≠ .none := by
  unfold scriptP
  have := (nos 100000).lon ⟨tk, 0, 0⟩ (by simp only [ln]; omega)
  split
  · rename_i e; exact absurd e this
  · exact fun e => by cases e
  · split
    · split <;> exact fun e => by cases e
    · exact fun e => by cases e
end Go.Proofs.YtcemlhfodpelaaaGreatDoor
namespace Go.Proofs.YtcemlhfodpelaaaGreatDoor
open Go.RowKit

/-- tokens that are not the end's -/
def Pr (y : List Tok) : Prop := ∀ t ∈ y, t.2 ≠ [] ∧ t.1 ≠ 4
abbrev Sx (y : List Tok) (dp dm : Nat) : PS := ⟨y ++ [(4, [])], dp, dm⟩
/-- what may stand behind: z first; d compounds around, k of them were open before -/
structure Beh where
  z : Tok
  r : List Tok
  d : Nat
  k : Nat
  red : redB z.2 = false
  wd : z.1 ≠ 1
  p1 : z.2 ≠ [124]
  p2 : z.2 ≠ [124, 124]
  p3 : z.2 ≠ [38, 38]
abbrev Jx (B : Beh) (y : List Tok) (dp dm : Nat) : PS := ⟨y ++ B.z :: B.r, dp + B.d, max (dm + B.d) B.k⟩
def LocU {α : Type} (B : Beh) (f : PS → PR α) : Prop := ∀ y dp dm a s', Pr y → f (Sx y dp dm) = .ok a s' → ∃ y' dp' dm', Pr y' ∧ s' = Sx y' dp' dm' ∧ f (Jx B y dp dm) = .ok a (Jx B y' dp' dm')
def LocC {α : Type} (B : Beh) (f : PS → PR α) : Prop := ∀ y dp dm a s', Pr y → f (Sx y dp dm) = .ok a s' → ∃ y' dp' dm', Pr y' ∧ s' = Sx y' dp' dm' ∧ (y' ≠ [] → f (Jx B y dp dm) = .ok a (Jx B y' dp' dm'))
/-- it can't be at the end -/
def Nk {α : Type} (f : PS → PR α) : Prop := ∀ dp dm a s', f (Sx [] dp dm) ≠ .ok a s'
theorem LocU.c {α : Type} {B : Beh} {f : PS → PR α} (h : LocU B f) : LocC B f := fun y dp dm a s' hy e => by
  obtain ⟨y', dp', dm', h1, h2, h3⟩ := h y dp dm a s' hy e
  exact ⟨y', dp', dm', h1, h2, fun _ => h3⟩
theorem LocU.of {α : Type} {B : Beh} {f g : PS → PR α} (he : ∀ s, f s = g s) (h : LocU B g) : LocU B f := fun y dp dm a s' hy e => by
  rw [he] at e ⊢
  exact h y dp dm a s' hy e
theorem LocC.of {α : Type} {B : Beh} {f g : PS → PR α} (he : ∀ s, f s = g s) (h : LocC B g) : LocC B f := fun y dp dm a s' hy e => by
  rw [he] at e ⊢
  exact h y dp dm a s' hy e
theorem andU {α β : Type} {B : Beh} {f : PS → PR α} {g : α → PS → PR β} (hf : LocU B f) (hg : ∀ a, LocU B (g a)) : LocU B (fun s => andT (f s) g) := fun y dp dm b s' hy e => by
  obtain ⟨a, s1, h1, h2⟩ := andT_ok e
  obtain ⟨y1, dp1, dm1, hy1, rfl, h3⟩ := hf y dp dm a s1 hy h1
  obtain ⟨y2, dp2, dm2, hy2, rfl, h4⟩ := hg a y1 dp1 dm1 b s' hy1 h2
  exact ⟨y2, dp2, dm2, hy2, rfl, by show andT _ _ = _; rw [h3]; exact h4⟩
theorem andUC {α β : Type} {B : Beh} {f : PS → PR α} {g : α → PS → PR β} (hf : LocU B f) (hg : ∀ a, LocC B (g a)) : LocC B (fun s => andT (f s) g) := fun y dp dm b s' hy e => by
  obtain ⟨a, s1, h1, h2⟩ := andT_ok e
  obtain ⟨y1, dp1, dm1, hy1, rfl, h3⟩ := hf y dp dm a s1 hy h1
  obtain ⟨y2, dp2, dm2, hy2, rfl, h4⟩ := hg a y1 dp1 dm1 b s' hy1 h2
  exact ⟨y2, dp2, dm2, hy2, rfl, fun hn => by show andT _ _ = _; rw [h3]; exact h4 hn⟩
theorem andN {α β : Type} {B : Beh} {f : PS → PR α} {g : α → PS → PR β} (hf : LocC B f) (hg : ∀ a, LocU B (g a)) (hn : ∀ a, Nk (g a)) : LocU B (fun s => andT (f s) g) := fun y dp dm b s' hy e => by
  obtain ⟨a, s1, h1, h2⟩ := andT_ok e
  obtain ⟨y1, dp1, dm1, hy1, rfl, h3⟩ := hf y dp dm a s1 hy h1
  obtain ⟨y2, dp2, dm2, hy2, rfl, h4⟩ := hg a y1 dp1 dm1 b s' hy1 h2
  have hne : y1 ≠ [] := fun e => by subst e; exact hn a _ _ _ _ h2
  exact ⟨y2, dp2, dm2, hy2, rfl, by show andT _ _ = _; rw [h3 hne]; exact h4⟩
theorem andNC {α β : Type} {B : Beh} {f : PS → PR α} {g : α → PS → PR β} (hf : LocC B f) (hg : ∀ a, LocC B (g a)) (hn : ∀ a, Nk (g a)) : LocC B (fun s => andT (f s) g) := fun y dp dm b s' hy e => by
  obtain ⟨a, s1, h1, h2⟩ := andT_ok e
  obtain ⟨y1, dp1, dm1, hy1, rfl, h3⟩ := hf y dp dm a s1 hy h1
  obtain ⟨y2, dp2, dm2, hy2, rfl, h4⟩ := hg a y1 dp1 dm1 b s' hy1 h2
  have hne : y1 ≠ [] := fun e => by subst e; exact hn a _ _ _ _ h2
  exact ⟨y2, dp2, dm2, hy2, rfl, fun hq => by show andT _ _ = _; rw [h3 hne]; exact h4 hq⟩
theorem Nk.and {α β : Type} {f : PS → PR α} {g : α → PS → PR β} (h : Nk f) : Nk (fun s => andT (f s) g) := fun dp dm a s' e => by
  obtain ⟨a, s1, h1, h2⟩ := andT_ok e
  exact h _ _ _ _ h1
theorem skip_end : ∀ (y : List Tok), skipL (y ++ [(4, [])]) = skipL y ++ [(4, [])]
  | [] => rfl
  | t :: r => by
    show (if t.2 = [10] then skipL (r ++ _) else t :: (r ++ _)) = (if t.2 = [10] then skipL r else t :: r) ++ _
    split
    · exact skip_end r
    · rfl
theorem skip_more : ∀ (y X : List Tok), skipL y ≠ [] → skipL (y ++ X) = skipL y ++ X
  | [], _, h => absurd rfl h
  | t :: r, X, h => by
    show (if t.2 = [10] then skipL (r ++ X) else t :: (r ++ X)) = (if t.2 = [10] then skipL r else t :: r) ++ X
    have h : (if t.2 = [10] then skipL r else t :: r) ≠ [] := h
    split
    · rename_i e
      rw [if_pos e] at h
      exact skip_more r X h
    · rfl
theorem skip_all : ∀ (y X : List Tok), skipL y = [] → skipL (y ++ X) = skipL X
  | [], _, _ => rfl
  | t :: r, X, h => by
    show (if t.2 = [10] then skipL (r ++ X) else t :: (r ++ X)) = _
    have h : (if t.2 = [10] then skipL r else t :: r) = [] := h
    split
    · rename_i e
      rw [if_pos e] at h
      exact skip_all r X h
    · rename_i e
      rw [if_neg e] at h
      cases h
theorem Pr.skip : ∀ {y : List Tok}, Pr y → Pr (skipL y)
  | [], h => h
  | t :: r, h => by
    show Pr (if t.2 = [10] then skipL r else t :: r)
    split
    · exact Pr.skip fun x hx => h x (List.mem_cons_of_mem _ hx)
    · exact h
theorem Pr.tail {t : Tok} {r : List Tok} (h : Pr (t :: r)) : Pr r := fun x hx => h x (List.mem_cons_of_mem _ hx)
theorem sk_S (y : List Tok) (dp dm : Nat) : (Sx y dp dm).sk = Sx (skipL y) dp dm := by simp [skip_end]
theorem sk_J (B : Beh) (y : List Tok) (dp dm : Nat) (h : skipL y ≠ []) : (Jx B y dp dm).sk = Jx B (skipL y) dp dm := by simp [skip_more _ _ h]
theorem skU {α : Type} {B : Beh} {f : PS → PR α} (h : LocU B f) (hn : Nk f) : LocU B (fun s => f s.sk) := fun y dp dm a s' hy e => by
  have e : f (Sx y dp dm).sk = _ := e
  rw [sk_S] at e
  have hne : skipL y ≠ [] := fun e0 => by rw [e0] at e; exact hn _ _ _ _ e
  obtain ⟨y', dp', dm', h1, h2, h3⟩ := h _ dp dm a s' hy.skip e
  exact ⟨y', dp', dm', h1, h2, by show f (Jx B y dp dm).sk = _; rw [sk_J _ _ _ _ hne]; exact h3⟩
theorem skC {α : Type} {B : Beh} {f : PS → PR α} (h : LocC B f) (hn : Nk f) : LocC B (fun s => f s.sk) := fun y dp dm a s' hy e => by
  have e : f (Sx y dp dm).sk = _ := e
  rw [sk_S] at e
  have hne : skipL y ≠ [] := fun e0 => by rw [e0] at e; exact hn _ _ _ _ e
  obtain ⟨y', dp', dm', h1, h2, h3⟩ := h _ dp dm a s' hy.skip e
  exact ⟨y', dp', dm', h1, h2, fun hq => by show f (Jx B y dp dm).sk = _; rw [sk_J _ _ _ _ hne]; exact h3 hq⟩
theorem Nk.sk {α : Type} {f : PS → PR α} (h : Nk f) : Nk (fun s => f s.sk) := fun dp dm a s' e => h dp dm a s' e
theorem okU {α : Type} {B : Beh} (a : α) : LocU B (fun s => PR.ok a s) := fun y dp dm b s' hy e => by
  cases e
  exact ⟨y, dp, dm, hy, rfl, rfl⟩
theorem badU {α : Type} {B : Beh} : LocU (α := α) B (fun _ => .bad) := fun y dp dm b s' hy e => by cases e
/-- a test for a text, which is then passed -/
theorem iteU {α : Type} {B : Beh} {t : Bs} {f g : PS → PR α} (ht : t ≠ []) (hf : LocU B f) (hg : LocU B g) (hz : B.z.2 ≠ t ∨ Nk g) : LocU B (fun s => if tx s.ts = t then f s.nx else g s) := fun y dp dm a s' hy e => by
  cases y with
  | nil =>
    have e : (if tx [((4, []) : Tok)] = t then f (Sx [] dp dm).nx else g (Sx [] dp dm)) = _ := e
    rw [if_neg (fun h => ht h.symm)] at e
    rcases hz with hz | hn
    · obtain ⟨y', dp', dm', h1, h2, h3⟩ := hg [] dp dm a s' hy e
      exact ⟨y', dp', dm', h1, h2, (if_neg (show ¬ tx (B.z :: B.r) = t from hz)).trans h3⟩
    · exact absurd e (hn _ _ _ _)
  | cons c r =>
    have e : (if c.2 = t then f (Sx r dp dm) else g (Sx (c :: r) dp dm)) = _ := e
    show ∃ y' dp' dm', Pr y' ∧ s' = Sx y' dp' dm' ∧ (if c.2 = t then f (Jx B r dp dm) else g (Jx B (c :: r) dp dm)) = _
    split
    · rename_i h
      rw [if_pos h] at e
      exact hf r dp dm a s' hy.tail e
    · rename_i h
      rw [if_neg h] at e
      exact hg _ dp dm a s' hy e
theorem iteC {α : Type} {B : Beh} {t : Bs} {f g : PS → PR α} (ht : t ≠ []) (hf : LocC B f) (hg : LocC B g) (hn : Nk g) : LocC B (fun s => if tx s.ts = t then f s.nx else g s) := fun y dp dm a s' hy e => by
  cases y with
  | nil =>
    have e : (if tx [((4, []) : Tok)] = t then f (Sx [] dp dm).nx else g (Sx [] dp dm)) = _ := e
    rw [if_neg (fun h => ht h.symm)] at e
    exact absurd e (hn _ _ _ _)
  | cons c r =>
    have e : (if c.2 = t then f (Sx r dp dm) else g (Sx (c :: r) dp dm)) = _ := e
    show ∃ y' dp' dm', Pr y' ∧ s' = Sx y' dp' dm' ∧ (y' ≠ [] → (if c.2 = t then f (Jx B r dp dm) else g (Jx B (c :: r) dp dm)) = _)
    split
    · rename_i h
      rw [if_pos h] at e
      exact hf r dp dm a s' hy.tail e
    · rename_i h
      rw [if_neg h] at e
      exact hg _ dp dm a s' hy e
theorem Nk.ite {α : Type} {t : Bs} {f g : PS → PR α} (ht : t ≠ []) (hn : Nk g) : Nk (fun s => if tx s.ts = t then f s.nx else g s) := fun dp dm a s' e => by
  have e : (if tx [((4, []) : Tok)] = t then f (Sx [] dp dm).nx else g (Sx [] dp dm)) = _ := e
  rw [if_neg (fun h => ht h.symm)] at e
  exact hn _ _ _ _ e
/-- a test for a word, which is then passed -/
theorem kdU {α : Type} {B : Beh} {f : Bs → PS → PR α} {g : PS → PR α} {q : Bs → Bool} (hf : ∀ w, LocU B (f w)) (hg : LocU B g) : LocU B (fun s => if kd s.ts = 1 ∧ q (tx s.ts) = true then f (tx s.ts) s.nx else g s) := fun y dp dm a s' hy e => by
  cases y with
  | nil =>
    have hno : ¬ ((4 : Nat) = 1 ∧ q [] = true) := fun h => by cases h.1
    have e : g (Sx [] dp dm) = .ok a s' := (if_neg hno).symm.trans e
    obtain ⟨y', dp', dm', h1, h2, h3⟩ := hg [] dp dm a s' hy e
    exact ⟨y', dp', dm', h1, h2, (if_neg (show ¬ (B.z.1 = 1 ∧ q B.z.2 = true) from fun h => B.wd h.1)).trans h3⟩
  | cons c r =>
    have e : (if c.1 = 1 ∧ q c.2 = true then f c.2 (Sx r dp dm) else g (Sx (c :: r) dp dm)) = _ := e
    show ∃ y' dp' dm', Pr y' ∧ s' = Sx y' dp' dm' ∧ (if c.1 = 1 ∧ q c.2 = true then f c.2 (Jx B r dp dm) else g (Jx B (c :: r) dp dm)) = _
    split
    · rename_i h
      rw [if_pos h] at e
      exact hf _ r dp dm a s' hy.tail e
    · rename_i h
      rw [if_neg h] at e
      exact hg _ dp dm a s' hy e
theorem want_U {B : Beh} {t : Bs} (ht : t ≠ []) : LocU B (wantP t) := LocU.of (fun s => by unfold wantP; rfl) (iteU (f := fun s => .ok () s) (g := fun _ => .bad) ht (okU ()) badU (.inr fun _ _ _ _ e => by cases e))
theorem want_N {t : Bs} (ht : t ≠ []) : Nk (wantP t) := fun dp dm a s' e => by
  unfold wantP at e
  rw [if_neg (fun h => ht h.symm)] at e
  cases e
theorem name_U {B : Beh} : LocU B nameP := LocU.of (fun s => by unfold nameP; rfl) (kdU (f := fun w s => .ok w s) (g := fun _ => .bad) (q := nameB) (fun w => okU w) badU)
theorem word_U {B : Beh} : LocU B wordP := LocU.of (fun s => by unfold wordP; simp) (kdU (f := fun w s => .ok w s) (g := fun _ => .bad) (q := fun _ => true) (fun w => okU w) badU)
theorem word_N : Nk wordP := fun dp dm a s' e => by
  unfold wordP at e
  rw [if_neg (fun h => by cases h)] at e
  cases e
/-- a redirection, which is then passed -/
theorem redU {α : Type} {B : Beh} {f : Bs × Bs → PS → PR α} {g : PS → PR α} (hf : ∀ w, LocU B (f w)) (hg : LocU B g) : LocU B (fun s => if redB (tx s.ts) = true then andT (redirP s) f else g s) := fun y dp dm a s' hy e => by
  cases y with
  | nil =>
    have e : (if redB [] = true then _ else g (Sx [] dp dm)) = _ := e
    rw [if_neg (by decide)] at e
    obtain ⟨y', dp', dm', h1, h2, h3⟩ := hg [] dp dm a s' hy e
    exact ⟨y', dp', dm', h1, h2, by show (if redB B.z.2 = true then _ else _) = _; rw [if_neg (by rw [B.red]; decide)]; exact h3⟩
  | cons c r =>
    have e : (if redB c.2 = true then andT (andT (wordP (Sx r dp dm)) fun w s' => .ok (c.2, w) s') f else g (Sx (c :: r) dp dm)) = _ := e
    show ∃ y' dp' dm', Pr y' ∧ s' = Sx y' dp' dm' ∧ (if redB c.2 = true then andT (andT (wordP (Jx B r dp dm)) fun w s' => .ok (c.2, w) s') f else g (Jx B (c :: r) dp dm)) = _
    split
    · rename_i h
      rw [if_pos h] at e
      exact andU (andU (g := fun w s' => .ok (c.2, w) s') word_U fun w => okU _) hf r dp dm a s' hy.tail e
    · rename_i h
      rw [if_neg h] at e
      exact hg _ dp dm a s' hy e
theorem redirs_U {B : Beh} : ∀ (n : Nat) (l : List (Bs × Bs)), LocU B (redirsP n l)
  | 0, _ => fun _ _ _ _ _ _ e => by cases e
  | n + 1, l => LocU.of (fun s => by rw [redirsP]) (redU (f := fun r s' => redirsP n (l ++ [r]) s') (g := fun s => .ok l s) (fun r => redirs_U n _) (okU l))
theorem wkU {α : Type} {B : Beh} {f : Bs → PS → PR α} {g : PS → PR α} (hf : ∀ w, LocU B (f w)) (hg : LocU B g) : LocU B (fun s => if kd s.ts = 1 then f (tx s.ts) s.nx else g s) := LocU.of (fun s => by simp) (kdU (q := fun _ => true) hf hg)
theorem simple_U {B : Beh} : ∀ (n : Nat) (b : Bool) (ag ws : List Bs) (rs : List (Bs × Bs)), LocU B (simpleP n b ag ws rs)
  | 0, _, _, _, _ => fun _ _ _ _ _ _ e => by cases e
  | n + 1, b, ag, ws, rs => by
    refine LocU.of (fun s => by rw [simpleP]) (redU (f := fun r s' => simpleP n true ag ws (rs ++ [r]) s') (fun r => simple_U n _ _ _ _) ?_)
    refine wkU (f := fun w s => if ws = [] ∧ assignB w = true then simpleP n true (ag ++ [w]) ws rs s else simpleP n true ag (ws ++ [w]) rs s) (fun w => ?_) ?_
    · by_cases h : ws = [] ∧ assignB w = true
      · exact LocU.of (fun s => by rw [if_pos h]) (simple_U n _ _ _ _)
      · exact LocU.of (fun s => by rw [if_neg h]) (simple_U n _ _ _ _)
    · cases b
      · exact LocU.of (fun s => if_neg (by decide)) badU
      · exact LocU.of (fun s => if_pos rfl) (okU _)
theorem words_U {B : Beh} : ∀ (n : Nat) (l : List Bs), LocU B (wordsP n l)
  | 0, _ => fun _ _ _ _ _ _ e => by cases e
  | n + 1, l => LocU.of (fun s => by rw [wordsP]) (wkU (f := fun w s => wordsP n (l ++ [w]) s) (fun w => words_U n _) (okU l))
theorem pats_U {B : Beh} : ∀ (n : Nat) (l : List Bs), LocU B (patsP n l)
  | 0, _ => fun _ _ _ _ _ _ e => by cases e
  | n + 1, l => LocU.of (fun s => by rw [patsP]) (iteU (f := fun s => andT (wordP s) fun w s' => patsP n (l ++ [w]) s') (g := fun s => .ok l s) (by simp) (andU word_U fun w => pats_U n _) (okU l) (.inl B.p1))
end Go.Proofs.YtcemlhfodpelaaaGreatDoor
namespace Go.Proofs.YtcemlhfodpelaaaGreatDoor
open Go.RowKit

structure Los (B : Beh) (n : Nat) : Prop where
  andors : LocC B (andorsP n)
  andorsl : ∀ k, LocC B (andorsL n k)
  andor : LocU B (andorP n)
  andorl : ∀ k, LocU B (andorL n k)
  pipe : LocU B (pipeP n)
  pipel : ∀ b k, LocU B (pipeL n b k)
  command : LocU B (commandP n)
  list : LocC B (listP n)
  lon : LocC B (lonP n)
  form : ∀ f, LocU B (formP n f)
  choice : LocU B (choiceP n)
  while_ : ∀ b, LocU B (whileP n b)
  do_ : LocU B (doP n)
  arms : ∀ k, LocU B (armsP n k)
  arm : LocC B (armP n)
theorem nk_of {α : Type} {B : Beh} {f : PS → PR α} (h : LocC B f) (hl : ∀ {s a s'}, f s = .ok a s' → ln s' < ln s) : Nk f := fun dp dm a s' e => by
  obtain ⟨y', dp', dm', h1, rfl, h3⟩ := h [] dp dm a s' (fun t ht => by cases ht) e
  have := hl e
  simp [ln] at this
theorem mapC {α β : Type} {B : Beh} {f : PS → PR α} (h : α → β) (hf : LocC B f) : LocC B (fun s => andT (f s) fun a s' => .ok (h a) s') := fun y dp dm b s' hy e => by
  obtain ⟨a, s1, h1, h2⟩ := andT_ok e
  cases h2
  obtain ⟨y1, dp1, dm1, hy1, rfl, h3⟩ := hf y dp dm a s' hy h1
  exact ⟨y1, dp1, dm1, hy1, rfl, fun hq => by show andT _ _ = _; rw [h3 hq]; rfl⟩
/-- a sep, or none, and then something that must be there -/
theorem sep_opt {α : Type} {B : Beh} {f : PS → PR α} (h : LocU B f) (hn : Nk f) : LocU B (fun s => f (match sepP s with | some s3 => s3 | none => s)) := fun y dp dm a s' hy e => by
  cases y with
  | nil => exact absurd e (hn _ _ _ _)
  | cons c r =>
    dsimp only at e ⊢
    by_cases hc : c.2 = [59] ∨ c.2 = [10]
    · have e1 : sepP (Sx (c :: r) dp dm) = some (Sx (skipL r) dp dm) := by
        rw [← sk_S]
        exact if_pos hc
      rw [e1] at e
      dsimp only at e
      have hr : skipL r ≠ [] := fun e0 => by rw [e0] at e; exact hn _ _ _ _ e
      have e2 : sepP (Jx B (c :: r) dp dm) = some (Jx B (skipL r) dp dm) := by
        rw [← sk_J _ _ _ _ hr]
        exact if_pos hc
      rw [e2]
      exact h _ dp dm a s' hy.tail.skip e
    · have e1 : sepP (Sx (c :: r) dp dm) = none := if_neg hc
      have e2 : sepP (Jx B (c :: r) dp dm) = none := if_neg hc
      rw [e1] at e
      rw [e2]
      exact h _ dp dm a s' hy e
theorem skE {α : Type} {B : Beh} {f : PS → PR α} (h : LocC B f) (h0 : ∀ dp dm a s', f (Sx [] dp dm) = .ok a s' → s' = Sx [] dp dm) : LocC B (fun s => f s.sk) := fun y dp dm a s' hy e => by
  have e : f (Sx y dp dm).sk = _ := e
  rw [sk_S] at e
  by_cases hr : skipL y = []
  · rw [hr] at e
    exact ⟨[], dp, dm, (fun t ht => by cases ht), h0 _ _ _ _ e, fun h => absurd rfl h⟩
  · obtain ⟨y', dp', dm', h1, h2, h3⟩ := h _ dp dm a s' hy.skip e
    exact ⟨y', dp', dm', h1, h2, fun hq => by show f (Jx B y dp dm).sk = _; rw [sk_J _ _ _ _ hr]; exact h3 hq⟩
theorem for_in {B : Beh} (n : Nat) (nm : Bs) : LocC B (fun s1 => if tx s1.sk.ts = [105, 110] then wordsP n [nm] s1.sk.nx else .ok [nm] s1.sk) := by
  refine skE (f := fun s => if tx s.ts = [105, 110] then wordsP n [nm] s.nx else .ok [nm] s) (fun y dp dm a s' hy e => ?_) fun dp dm a s' e => ?_
  · cases y with
    | nil =>
      have e : PR.ok [nm] (Sx [] dp dm) = .ok a s' := e
      cases e
      exact ⟨[], dp, dm, (fun t ht => by cases ht), rfl, fun h => absurd rfl h⟩
    | cons c r =>
      have e : (if c.2 = [105, 110] then wordsP n [nm] (Sx r dp dm) else .ok [nm] (Sx (c :: r) dp dm)) = _ := e
      show ∃ y' dp' dm', Pr y' ∧ s' = Sx y' dp' dm' ∧ (y' ≠ [] → (if c.2 = [105, 110] then wordsP n [nm] (Jx B r dp dm) else .ok [nm] (Jx B (c :: r) dp dm)) = _)
      split
      · rename_i h
        rw [if_pos h] at e
        exact (words_U n _).c r dp dm a s' hy.tail e
      · rename_i h
        rw [if_neg h] at e
        cases e
        exact ⟨_, dp, dm, hy, rfl, fun _ => rfl⟩
  · have e : PR.ok [nm] (Sx [] dp dm) = .ok a s' := e
    cases e
    rfl
theorem arm_end {α : Type} {B : Beh} (x : α) : LocC B (fun s4 => if tx s4.ts = [59, 59] then PR.ok x s4.nx.sk else if tx s4.ts = [101, 115, 97, 99] then .ok x s4 else .bad) := fun y dp dm a s' hy e => by
  cases y with
  | nil =>
    have e : (PR.bad : PR α) = .ok a s' := e
    cases e
  | cons c r =>
    have e : (if c.2 = [59, 59] then PR.ok x (Sx r dp dm).sk else if c.2 = [101, 115, 97, 99] then PR.ok x (Sx (c :: r) dp dm) else .bad) = _ := e
    show ∃ y' dp' dm', Pr y' ∧ s' = Sx y' dp' dm' ∧ (y' ≠ [] → (if c.2 = [59, 59] then PR.ok x (Jx B r dp dm).sk else if c.2 = [101, 115, 97, 99] then PR.ok x (Jx B (c :: r) dp dm) else .bad) = _)
    split
    · rename_i h
      rw [if_pos h, sk_S] at e
      cases e
      exact ⟨_, dp, dm, hy.tail.skip, rfl, fun hq => by rw [sk_J _ _ _ _ hq]⟩
    · rename_i h
      rw [if_neg h] at e
      split
      · rename_i h2
        rw [if_pos h2] at e
        cases e
        exact ⟨_, dp, dm, hy, rfl, fun _ => rfl⟩
      · rename_i h2
        rw [if_neg h2] at e
        cases e
theorem los (B : Beh) : ∀ n, Los B n
  | 0 => by constructor <;> (intros; intro _ _ _ _ _ _ e; cases e)
  | n + 1 => by
    have ih := los B n
    have il := lns n
    have n1 : Nk (andorP n) := nk_of ih.andor.c il.andor
    have n2 : Nk (pipeP n) := nk_of ih.pipe.c il.pipe
    have n3 : Nk (commandP n) := nk_of ih.command.c il.command
    have n4 : Nk (andorsP n) := nk_of ih.andors il.andors
    have n5 : Nk (listP n) := nk_of ih.list il.list
    have n6 : Nk (doP n) := nk_of ih.do_.c il.do_
    have n7 : ∀ k, Nk (armsP n k) := fun k => nk_of (ih.arms k).c il.arms
    have n8 : Nk (choiceP n) := nk_of ih.choice.c il.choice
    have n9 : Nk (armP n) := nk_of ih.arm il.arm
    constructor
    · exact LocC.of (fun s => by rw [andorsP]) (andUC (g := fun c s' => andorsL n [c] s') ih.andor fun c => ih.andorsl _)
    · intro k y dp dm l s' hy e
      rw [andorsL] at e
      cases y with
      | nil =>
        have e : PR.ok k (Sx [] dp dm) = .ok l s' := e
        cases e
        exact ⟨[], dp, dm, hy, rfl, fun h => absurd rfl h⟩
      | cons c r =>
        by_cases hc : c.2 = [59] ∨ c.2 = [10]
        · have e1 : sepP (Sx (c :: r) dp dm) = some (Sx (skipL r) dp dm) := by
            rw [← sk_S]
            exact if_pos hc
          rw [e1] at e
          by_cases hr : skipL r = []
          · rw [hr] at e
            have e : PR.ok k (Sx [] dp dm) = .ok l s' := e
            cases e
            exact ⟨[], dp, dm, (fun t ht => by cases ht), rfl, fun h => absurd rfl h⟩
          · have e2 : sepP (Jx B (c :: r) dp dm) = some (Jx B (skipL r) dp dm) := by
              rw [← sk_J _ _ _ _ hr]
              exact if_pos hc
            rw [andorsL, e2]
            dsimp only at e ⊢
            have hp : Pr (skipL r) := hy.tail.skip
            generalize skipL r = q at e hp hr ⊢
            cases q with
            | nil => exact absurd rfl hr
            | cons c' r' =>
              have e : (if endsB c'.2 = true then PR.ok k (Sx (c' :: r') dp dm) else andT (andorP n (Sx (c' :: r') dp dm)) fun c s2 => andorsL n (k ++ [c]) s2) = _ := e
              show ∃ y' dp' dm', Pr y' ∧ s' = Sx y' dp' dm' ∧ (y' ≠ [] → (if endsB c'.2 = true then PR.ok k (Jx B (c' :: r') dp dm) else andT (andorP n (Jx B (c' :: r') dp dm)) fun c s2 => andorsL n (k ++ [c]) s2) = _)
              split
              · rename_i h
                rw [if_pos h] at e
                cases e
                exact ⟨_, dp, dm, hp, rfl, fun _ => rfl⟩
              · rename_i h
                rw [if_neg h] at e
                exact andUC (g := fun c s' => andorsL n (k ++ [c]) s') ih.andor (fun c => ih.andorsl _) _ dp dm l s' hp e
        · have e1 : sepP (Sx (c :: r) dp dm) = none := if_neg hc
          have e2 : sepP (Jx B (c :: r) dp dm) = none := if_neg hc
          rw [e1] at e
          cases e
          exact ⟨_, dp, dm, hy, rfl, fun _ => by rw [andorsL, e2]⟩
    · exact LocU.of (fun s => by rw [andorP]) (andU (g := fun c s' => andorL n c s') ih.pipe fun c => ih.andorl _)
    · intro k
      refine LocU.of (fun s => by rw [andorL]) (iteU (f := fun s => andT (pipeP n s.sk) fun d s' => andorL n (.mk 4 false [] [] [] [k, d] []) s') (by simp) (andU (skU ih.pipe n2) fun d => ih.andorl _) (iteU (f := fun s => andT (pipeP n s.sk) fun d s' => andorL n (.mk 3 false [] [] [] [k, d] []) s') (g := fun s => .ok k s) (by simp) (andU (skU ih.pipe n2) fun d => ih.andorl _) (okU k) (.inl B.p3)) (.inl B.p2))
    · intro y dp dm a s' hy e
      rw [pipeP] at e ⊢
      cases y with
      | nil =>
        have e : (andT (commandP n (Sx [] dp dm)) fun c s' => pipeL n (decide ([] = [33])) [c] s') = .ok a s' := e
        obtain ⟨_, _, h1, _⟩ := andT_ok e
        exact absurd h1 (n3 _ _ _ _)
      | cons c r =>
        have e : (andT (commandP n (if c.2 = [33] then Sx r dp dm else Sx (c :: r) dp dm)) fun c' s' => pipeL n (decide (c.2 = [33])) [c'] s') = .ok a s' := e
        show ∃ y' dp' dm', Pr y' ∧ s' = Sx y' dp' dm' ∧ (andT (commandP n (if c.2 = [33] then Jx B r dp dm else Jx B (c :: r) dp dm)) fun c' s' => pipeL n (decide (c.2 = [33])) [c'] s') = _
        by_cases h : c.2 = [33]
        · rw [if_pos h] at e
          rw [if_pos h]
          exact andU (g := fun c' s' => pipeL n (decide (c.2 = [33])) [c'] s') ih.command (fun c' => ih.pipel _ _) r dp dm a s' hy.tail e
        · rw [if_neg h] at e
          rw [if_neg h]
          exact andU (g := fun c' s' => pipeL n (decide (c.2 = [33])) [c'] s') ih.command (fun c' => ih.pipel _ _) (c :: r) dp dm a s' hy e
    · intro b k
      exact LocU.of (fun s => by rw [pipeL]) (iteU (f := fun s => andT (commandP n s.sk) fun c s' => pipeL n b (k ++ [c]) s') (g := fun s => .ok (pipeV b k) s) (by simp) (andU (skU ih.command n3) fun d => ih.pipel _ _) (okU _) (.inl B.p1))
    · intro y dp dm a s' hy e
      rw [commandP] at e ⊢
      cases y with
      | nil =>
        have e : (PR.bad : PR Cd) = .ok a s' := e
        cases e
      | cons c r =>
        have t1 : tx (Sx (c :: r) dp dm).ts = c.2 := rfl
        have t2 : tx (Jx B (c :: r) dp dm).ts = c.2 := rfl
        rw [t1] at e
        rw [t2]
        cases hf : formOf c.2 with
        | none =>
          rw [hf] at e
          dsimp only at e ⊢
          split
          · rename_i h
            rw [if_pos h] at e
            cases e
          · rename_i h
            rw [if_neg h] at e
            exact simple_U n _ _ _ _ (c :: r) dp dm a s' hy e
        | some f =>
          rw [hf] at e
          dsimp only at e ⊢
          obtain ⟨a1, s1, h1, h2⟩ := andT_ok e
          have hd := (dps n).form h1
          obtain ⟨y1, dp1, dm1, hy1, rfl, h3⟩ := ih.form f r (dp + 1) (max dm (dp + 1)) a1 s1 hy.tail h1
          have hd : dp1 = dp + 1 := hd
          subst hd
          obtain ⟨k, b, ag, ws, rs, ks, ar⟩ := a1
          dsimp only at h2
          obtain ⟨a2, s2, h4, h5⟩ := andT_ok h2
          cases h5
          obtain ⟨y2, dp2, dm2, hy2, rfl, h6⟩ := redirs_U (B := B) n rs y1 dp dm1 a2 s' hy1 h4
          refine ⟨y2, dp2, dm2, hy2, rfl, ?_⟩
          have e3 : (⟨(c :: r ++ B.z :: B.r).tail, dp + B.d + 1, max (max (dm + B.d) B.k) (dp + B.d + 1)⟩ : PS) = Jx B r (dp + 1) (max dm (dp + 1)) := by
            have a1 : dp + B.d + 1 = dp + 1 + B.d := by omega
            have a2 : max (max (dm + B.d) B.k) (dp + B.d + 1) = max (max dm (dp + 1) + B.d) B.k := by omega
            show (⟨r ++ B.z :: B.r, dp + B.d + 1, max (max (dm + B.d) B.k) (dp + B.d + 1)⟩ : PS) = _
            rw [a2, a1]
          rw [e3, h3]
          show andT (redirsP n rs ⟨y1 ++ B.z :: B.r, dp + 1 + B.d - 1, max (dm1 + B.d) B.k⟩) _ = _
          have e4 : dp + 1 + B.d - 1 = dp + B.d := by omega
          rw [e4, h6]
          rfl
    · exact LocC.of (fun s => by rw [listP]) (mapC aloneP (skC ih.andors n4))
    · intro y dp dm a s' hy e
      rw [lonP] at e ⊢
      rw [sk_S] at e
      by_cases hr : skipL y = []
      · rw [hr] at e
        have e : PR.ok [] (Sx [] dp dm) = .ok a s' := e
        cases e
        exact ⟨[], dp, dm, (fun t ht => by cases ht), rfl, fun h => absurd rfl h⟩
      · rw [sk_J _ _ _ _ hr]
        have hp : Pr (skipL y) := hy.skip
        generalize skipL y = q at e hp hr ⊢
        cases q with
        | nil => exact absurd rfl hr
        | cons c' r' =>
          have e : (if endsB c'.2 = true then PR.ok [] (Sx (c' :: r') dp dm) else andorsP n (Sx (c' :: r') dp dm)) = _ := e
          show ∃ y' dp' dm', Pr y' ∧ s' = Sx y' dp' dm' ∧ (y' ≠ [] → (if endsB c'.2 = true then PR.ok [] (Jx B (c' :: r') dp dm) else andorsP n (Jx B (c' :: r') dp dm)) = _)
          split
          · rename_i h
            rw [if_pos h] at e
            cases e
            exact ⟨_, dp, dm, hp, rfl, fun _ => rfl⟩
          · rename_i h
            rw [if_neg h] at e
            exact ih.andors _ dp dm a s' hp e
    · intro f
      cases f with
      | sub => exact LocU.of (fun s => by rw [formP]) (andN ih.list (fun c => andU (g := fun _ s2 => .ok (.mk 11 false [] [] [] [c] []) s2) (want_U (by simp)) fun _ => okU _) fun c => Nk.and (want_N (by simp)))
      | grp => exact LocU.of (fun s => by rw [formP]) (andN ih.list (fun c => andU (g := fun _ s2 => .ok (.mk 10 false [] [] [] [c] []) s2) (want_U (by simp)) fun _ => okU _) fun c => Nk.and (want_N (by simp)))
      | cho => exact LocU.of (fun s => by rw [formP]) ih.choice
      | whl => exact LocU.of (fun s => by rw [formP]) (ih.while_ _)
      | unt => exact LocU.of (fun s => by rw [formP]) (ih.while_ _)
      | fr => exact LocU.of (fun s => by first | (rw [formP]; rfl) | rw [formP]) (andU name_U fun nm => andN (for_in n nm) (fun ws => andU (g := fun c s4 => .ok (.mk 8 false [] ws [] [c] []) s4) (sep_opt ih.do_ n6) fun c => okU _) fun ws => Nk.and fun dp dm a s' e => n6 _ _ _ _ e)
      | cas => exact LocU.of (fun s => by rw [formP]) (andU word_U fun w => andU (skU (want_U (by simp)) (want_N (by simp))) fun _ => andU (g := fun ar s3 => .ok (.mk 9 false [] [w] [] [] ar) s3) (skU (ih.arms []) (n7 [])) fun ar => okU _)
    · refine LocU.of (fun s => by rw [choiceP]) (andN ih.list (fun a => andU (want_U (by simp)) fun _ => andN ih.list (fun b => ?_) fun b => ?_) fun a => Nk.and (want_N (by simp)))
      · exact iteU (f := fun s => andT (choiceP n s) fun c s4 => PR.ok (Cd.mk 6 false [] [] [] [a, b, c] []) s4) (by simp) (andU ih.choice fun c => okU _) (iteU (f := fun s => andT (listP n s) fun c s4 => andT (wantP [102, 105] s4) fun _ s5 => PR.ok (Cd.mk 6 false [] [] [] [a, b, c] []) s5) (by simp) (andN ih.list (fun c => andU (g := fun _ s2 => PR.ok (Cd.mk 6 false [] [] [] [a, b, c] []) s2) (want_U (by simp)) fun _ => okU _) fun c => Nk.and (want_N (by simp))) (andU (g := fun _ s2 => PR.ok (Cd.mk 6 false [] [] [] [a, b] []) s2) (want_U (by simp)) fun _ => okU _) (.inr (Nk.and (want_N (by simp))))) (.inr (Nk.ite (f := fun s => andT (listP n s) fun c s4 => andT (wantP [102, 105] s4) fun _ s5 => PR.ok (Cd.mk 6 false [] [] [] [a, b, c] []) s5) (by simp) (Nk.and (want_N (by simp)))))
      · exact Nk.ite (f := fun s => andT (choiceP n s) fun c s4 => PR.ok (Cd.mk 6 false [] [] [] [a, b, c] []) s4) (by simp) (Nk.ite (f := fun s => andT (listP n s) fun c s4 => andT (wantP [102, 105] s4) fun _ s5 => PR.ok (Cd.mk 6 false [] [] [] [a, b, c] []) s5) (by simp) (Nk.and (want_N (by simp))))
    · intro b
      exact LocU.of (fun s => by rw [whileP]) (andN ih.list (fun a => andU (g := fun c s2 => .ok (.mk 7 b [] [] [] [a, c] []) s2) ih.do_ fun c => okU _) fun a => Nk.and n6)
    · exact LocU.of (fun s => by rw [doP]) (andU (want_U (by simp)) fun _ => andN ih.list (fun c => andU (g := fun _ s3 => .ok c s3) (want_U (by simp)) fun _ => okU _) fun c => Nk.and (want_N (by simp)))
    · intro k
      exact LocU.of (fun s => by rw [armsP]) (iteU (f := fun s => .ok k s) (by simp) (okU k) (andN (g := fun a s' => armsP n (k ++ [a]) s') ih.arm (fun a => ih.arms _) fun a => n7 _) (.inr (Nk.and n9)))
    · refine LocC.of (fun s => by rw [armP]) ?_
      have hrest : ∀ w, LocC B (fun s1 => andT (patsP n [w] s1) fun ps s2 => andT (wantP [41] s2) fun _ s3 => andT (lonP n s3) fun l s4 => if tx s4.ts = [59, 59] then .ok (ps, aloneP l) s4.nx.sk else if tx s4.ts = [101, 115, 97, 99] then .ok (ps, aloneP l) s4 else .bad) := fun w => andUC (pats_U n _) fun ps => andUC (want_U (by simp)) fun _ => andNC ih.lon (fun l => arm_end _) fun l => fun dp dm a s' e => by
        have e : (PR.bad : PR (List Bs × Cd)) = .ok a s' := e
        cases e
      intro y dp dm a s' hy e
      cases y with
      | nil =>
        obtain ⟨_, _, h1, _⟩ := andT_ok e
        exact absurd h1 (word_N _ _ _ _)
      | cons c r =>
        have t1 : tx (Sx (c :: r) dp dm).ts = c.2 := rfl
        have t2 : tx (Jx B (c :: r) dp dm).ts = c.2 := rfl
        dsimp only at e ⊢
        rw [t1] at e
        rw [t2]
        by_cases h : c.2 = [40]
        · rw [if_pos h] at e ⊢
          exact andUC word_U hrest r dp dm a s' hy.tail e
        · rw [if_neg h] at e ⊢
          exact andUC word_U hrest (c :: r) dp dm a s' hy e
end Go.Proofs.YtcemlhfodpelaaaGreatDoor
namespace Go.Proofs.YtcemlhfodpelaaaGreatDoor
open Go.RowKit

theorem andT_mo {α β : Type} {r r' : PR α} {f f' : α → PS → PR β} (hr : r ≠ .out → r' = r) (hf : ∀ a s, f a s ≠ .out → f' a s = f a s) (h : andT r f ≠ .out) : andT r' f' = andT r f := by
  cases r with
  | out => exact absurd rfl h
  | bad => rw [hr (fun e => by cases e)]; rfl
  | ok a s =>
    rw [hr (fun e => by cases e)]
    exact hf a s h
theorem andT_mo2 {α β : Type} {r : PR α} {f f' : α → PS → PR β} (hf : ∀ a s, f a s ≠ .out → f' a s = f a s) (h : andT r f ≠ .out) : andT r f' = andT r f := andT_mo (fun _ => rfl) hf h
theorem redirs_mo : ∀ (n : Nat) (l : List (Bs × Bs)) (s : PS), redirsP n l s ≠ .out → redirsP (n + 1) l s = redirsP n l s
  | 0, _, _, h => absurd rfl h
  | n + 1, l, s, h => by
    rw [redirsP, redirsP]
    rw [redirsP] at h
    split
    · rename_i hc
      rw [if_pos hc] at h
      exact andT_mo2 (fun a s1 => redirs_mo n _ _) h
    · rfl
theorem simple_mo : ∀ (n : Nat) (b : Bool) (ag ws : List Bs) (rs : List (Bs × Bs)) (s : PS), simpleP n b ag ws rs s ≠ .out → simpleP (n + 1) b ag ws rs s = simpleP n b ag ws rs s
  | 0, _, _, _, _, _, h => absurd rfl h
  | n + 1, b, ag, ws, rs, s, h => by
    conv => rhs; rw [simpleP]
    conv => lhs; rw [simpleP]
    rw [simpleP] at h
    split
    · rename_i hc
      rw [if_pos hc] at h
      exact andT_mo2 (fun a s1 => simple_mo n _ _ _ _ _) h
    · rename_i hc
      rw [if_neg hc] at h
      split
      · rename_i hk
        rw [if_pos hk] at h
        split
        · rename_i ha
          rw [if_pos ha] at h
          exact simple_mo n _ _ _ _ _ h
        · rename_i ha
          rw [if_neg ha] at h
          exact simple_mo n _ _ _ _ _ h
      · rfl
theorem words_mo : ∀ (n : Nat) (l : List Bs) (s : PS), wordsP n l s ≠ .out → wordsP (n + 1) l s = wordsP n l s
  | 0, _, _, h => absurd rfl h
  | n + 1, l, s, h => by
    conv => rhs; rw [wordsP]
    conv => lhs; rw [wordsP]
    rw [wordsP] at h
    split
    · rename_i hc
      rw [if_pos hc] at h
      exact words_mo n _ _ h
    · rfl
theorem pats_mo : ∀ (n : Nat) (l : List Bs) (s : PS), patsP n l s ≠ .out → patsP (n + 1) l s = patsP n l s
  | 0, _, _, h => absurd rfl h
  | n + 1, l, s, h => by
    rw [patsP, patsP]
    rw [patsP] at h
    split
    · rename_i hc
      rw [if_pos hc] at h
      exact andT_mo2 (fun a s1 => pats_mo n _ _) h
    · rfl
structure Mos (n : Nat) : Prop where
  andors : ∀ s, andorsP n s ≠ .out → andorsP (n + 1) s = andorsP n s
  andorsl : ∀ k s, andorsL n k s ≠ .out → andorsL (n + 1) k s = andorsL n k s
  andor : ∀ s, andorP n s ≠ .out → andorP (n + 1) s = andorP n s
  andorl : ∀ k s, andorL n k s ≠ .out → andorL (n + 1) k s = andorL n k s
  pipe : ∀ s, pipeP n s ≠ .out → pipeP (n + 1) s = pipeP n s
  pipel : ∀ b k s, pipeL n b k s ≠ .out → pipeL (n + 1) b k s = pipeL n b k s
  command : ∀ s, commandP n s ≠ .out → commandP (n + 1) s = commandP n s
  list : ∀ s, listP n s ≠ .out → listP (n + 1) s = listP n s
  lon : ∀ s, lonP n s ≠ .out → lonP (n + 1) s = lonP n s
  form : ∀ f s, formP n f s ≠ .out → formP (n + 1) f s = formP n f s
  choice : ∀ s, choiceP n s ≠ .out → choiceP (n + 1) s = choiceP n s
  while_ : ∀ b s, whileP n b s ≠ .out → whileP (n + 1) b s = whileP n b s
  do_ : ∀ s, doP n s ≠ .out → doP (n + 1) s = doP n s
  arms : ∀ k s, armsP n k s ≠ .out → armsP (n + 1) k s = armsP n k s
  arm : ∀ s, armP n s ≠ .out → armP (n + 1) s = armP n s
theorem mos : ∀ n, Mos n
  | 0 => by constructor <;> (intros; rename_i h; exact absurd rfl h)
  | n + 1 => by
    have ih := mos n
    constructor
    · intro s h
      rw [andorsP, andorsP]
      rw [andorsP] at h
      exact andT_mo (ih.andor _) (fun a s1 => ih.andorsl _ _) h
    · intro k s h
      rw [andorsL, andorsL]
      rw [andorsL] at h
      cases hs : sepP s with
      | none => rfl
      | some s1 =>
        rw [hs] at h
        dsimp only at h ⊢
        split
        · rfl
        · rename_i hc
          rw [if_neg hc] at h
          exact andT_mo (ih.andor _) (fun a s1 => ih.andorsl _ _) h
    · intro s h
      rw [andorP, andorP]
      rw [andorP] at h
      exact andT_mo (ih.pipe _) (fun a s1 => ih.andorl _ _) h
    · intro k s h
      rw [andorL, andorL]
      rw [andorL] at h
      split
      · rename_i hc
        rw [if_pos hc] at h
        exact andT_mo (ih.pipe _) (fun a s1 => ih.andorl _ _) h
      · rename_i hc
        rw [if_neg hc] at h
        split
        · rename_i hd
          rw [if_pos hd] at h
          exact andT_mo (ih.pipe _) (fun a s1 => ih.andorl _ _) h
        · rfl
    · intro s h
      rw [pipeP, pipeP]
      rw [pipeP] at h
      exact andT_mo (ih.command _) (fun a s1 => ih.pipel _ _ _) h
    · intro b k s h
      rw [pipeL, pipeL]
      rw [pipeL] at h
      split
      · rename_i hc
        rw [if_pos hc] at h
        exact andT_mo (ih.command _) (fun a s1 => ih.pipel _ _ _) h
      · rfl
    · intro s h
      rw [commandP, commandP]
      rw [commandP] at h
      cases hf : formOf (tx s.ts) with
      | none =>
        rw [hf] at h
        dsimp only at h ⊢
        split
        · rfl
        · rename_i hc
          rw [if_neg hc] at h
          exact simple_mo n _ _ _ _ _ h
      | some f =>
        rw [hf] at h
        dsimp only at h ⊢
        refine andT_mo (ih.form _ _) (fun a s1 h1 => ?_) h
        obtain ⟨k, b, ag, ws, rs, ks, ar⟩ := a
        dsimp only at h1 ⊢
        exact andT_mo (redirs_mo n _ _) (fun _ _ _ => rfl) h1
    · intro s h
      rw [listP, listP]
      rw [listP] at h
      exact andT_mo (ih.andors _) (fun _ _ _ => rfl) h
    · intro s h
      rw [lonP, lonP]
      rw [lonP] at h
      split
      · rfl
      · rename_i hc
        rw [if_neg hc] at h
        exact ih.andors _ h
    · intro f s h
      cases f with
      | sub =>
        rw [formP, formP]
        rw [formP] at h
        exact andT_mo (ih.list _) (fun _ _ _ => rfl) h
      | grp =>
        rw [formP, formP]
        rw [formP] at h
        exact andT_mo (ih.list _) (fun _ _ _ => rfl) h
      | cho => rw [formP, formP]; rw [formP] at h; exact ih.choice _ h
      | whl => rw [formP, formP]; rw [formP] at h; exact ih.while_ _ _ h
      | unt => rw [formP, formP]; rw [formP] at h; exact ih.while_ _ _ h
      | fr =>
        rw [formP, formP]
        rw [formP] at h
        refine andT_mo2 (fun a s1 h1 => andT_mo (fun h2 => ?_) (fun a2 s2 h3 => andT_mo (ih.do_ _) (fun _ _ _ => rfl) h3) h1) h
        split
        · rename_i hc
          rw [if_pos hc] at h2
          exact words_mo n _ _ h2
        · rfl
      | cas =>
        rw [formP, formP]
        rw [formP] at h
        exact andT_mo2 (fun a s1 h1 => andT_mo2 (fun a2 s2 h2 => andT_mo (ih.arms _ _) (fun _ _ _ => rfl) h2) h1) h
    · intro s h
      rw [choiceP, choiceP]
      rw [choiceP] at h
      refine andT_mo (ih.list _) (fun a s1 h1 => andT_mo2 (fun a2 s2 h2 => andT_mo (ih.list _) (fun a3 s3 h3 => ?_) h2) h1) h
      split
      · rename_i hc
        rw [if_pos hc] at h3
        exact andT_mo (ih.choice _) (fun _ _ _ => rfl) h3
      · rename_i hc
        rw [if_neg hc] at h3
        split
        · rename_i hd
          rw [if_pos hd] at h3
          exact andT_mo (ih.list _) (fun _ _ _ => rfl) h3
        · rfl
    · intro b s h
      rw [whileP, whileP]
      rw [whileP] at h
      exact andT_mo (ih.list _) (fun a s1 h1 => andT_mo (ih.do_ _) (fun _ _ _ => rfl) h1) h
    · intro s h
      rw [doP, doP]
      rw [doP] at h
      exact andT_mo2 (fun a s1 h1 => andT_mo (ih.list _) (fun _ _ _ => rfl) h1) h
    · intro k s h
      rw [armsP, armsP]
      rw [armsP] at h
      split
      · rfl
      · rename_i hc
        rw [if_neg hc] at h
        exact andT_mo (ih.arm _) (fun a s1 => ih.arms _ _) h
    · intro s h
      rw [armP, armP]
      rw [armP] at h
      exact andT_mo2 (fun a s1 h1 => andT_mo (pats_mo n _ _) (fun a2 s2 h2 => andT_mo2 (fun a3 s3 h3 => andT_mo (ih.lon _) (fun _ _ _ => rfl) h3) h2) h1) h
end Go.Proofs.YtcemlhfodpelaaaGreatDoor
namespace Go.Proofs.YtcemlhfodpelaaaGreatDoor
open Go.RowKit

/-- fuel that suffices tells what more of it tells -/
theorem fuel_up {α : Type} (f : Nat → PR α) (hm : ∀ n, f n ≠ .out → f (n + 1) = f n) : ∀ (d n : Nat), f n ≠ .out → f (n + d) = f n
  | 0, _, _ => rfl
  | d + 1, n, h => by
    have := fuel_up f hm d n h
    have h2 := hm (n + d) (by rw [this]; exact h)
    rw [← Nat.add_assoc, h2, this]
theorem fuel_eq {α : Type} (f : Nat → PR α) (hm : ∀ n, f n ≠ .out → f (n + 1) = f n) {b : Nat} (hb : ∀ n, b ≤ n → f n ≠ .out) {n m : Nat} (hn : b ≤ n) (hm' : b ≤ m) : f n = f m := by
  have h1 := fuel_up f hm (n - b) b (hb b (Nat.le_refl _))
  have h2 := fuel_up f hm (m - b) b (hb b (Nat.le_refl _))
  rw [show n = b + (n - b) by omega, show m = b + (m - b) by omega, h1, h2]
theorem andor_fuel {s : PS} {n m : Nat} (hn : 12 * ln s + 5 ≤ n) (hm : 12 * ln s + 5 ≤ m) : andorP n s = andorP m s := fuel_eq (fun n => andorP n s) (fun n => (mos n).andor s) (fun n h => (nos n).andor s h) hn hm
theorem lon_fuel {s : PS} {n m : Nat} (hn : 12 * ln s + 7 ≤ n) (hm : 12 * ln s + 7 ≤ m) : lonP n s = lonP m s := fuel_eq (fun n => lonP n s) (fun n => (mos n).lon s) (fun n h => (nos n).lon s h) hn hm
theorem S_end {y : List Tok} (hy : Pr y) (h : tx (y ++ [((4, []) : Tok)]) = []) : y = [] := by
  cases y with
  | nil => rfl
  | cons c r => exact absurd h (hy c (List.mem_cons_self ..)).1
theorem S_inj {y y' : List Tok} {dp dp' dm dm' : Nat} (h : Sx y dp dm = Sx y' dp' dm') : y = y' ∧ dp = dp' ∧ dm = dm' := by
  injection h with h1 h2 h3
  exact ⟨List.append_cancel_right h1, h2, h3⟩
abbrev sepT (t : Bs) : Prop := t = [59] ∨ t = [10]
/-- what is left of a part behind its command: nothing, or a sep -/
def Qok (q : List Tok) : Prop := q = [] ∨ ∃ t r, q = t :: r ∧ sepT t.2 ∧ skipL r = []
/-- a list whose row ends where something stands that ends it -/
theorem andorsl_end {B : Beh} (hz : B.z = (3, [10])) (hs : skipL B.r = B.r) (he : endsB (tx B.r) = true) : ∀ (n : Nat) (k : List Cd) (y : List Tok) (dp dm : Nat) (l : List Cd) (dp' dm' : Nat), Pr y → andorsL n k (Sx y dp dm) = .ok l (Sx [] dp' dm') → andorsL n k (Jx B y dp dm) = .ok l ⟨B.r, dp' + B.d, max (dm' + B.d) B.k⟩
  | 0, _, _, _, _, _, _, _, _, e => by cases e
  | n + 1, k, y, dp, dm, l, dp', dm', hy, e => by
    rw [andorsL] at e ⊢
    have hzr : skipL (B.z :: B.r) = B.r := by rw [hz]; exact hs
    cases y with
    | nil =>
      have e : PR.ok k (Sx [] dp dm) = .ok l (Sx [] dp' dm') := e
      injection e with e1 e2
      obtain ⟨-, rfl, rfl⟩ := S_inj e2
      subst e1
      have e2 : sepP (Jx B [] dp dm) = some ⟨B.r, dp + B.d, max (dm + B.d) B.k⟩ := by
        show (if B.z.2 = [59] ∨ B.z.2 = [10] then some _ else _) = _
        rw [if_pos (by rw [hz]; exact .inr rfl)]
        show some (⟨skipL B.r, _, _⟩ : PS) = _
        rw [hs]
      rw [e2]
      dsimp only
      rw [if_pos he]
    | cons c r =>
      by_cases hc : c.2 = [59] ∨ c.2 = [10]
      · have e1 : sepP (Sx (c :: r) dp dm) = some (Sx (skipL r) dp dm) := by
          rw [← sk_S]
          exact if_pos hc
        rw [e1] at e
        by_cases hr : skipL r = []
        · rw [hr] at e
          have e : PR.ok k (Sx [] dp dm) = .ok l (Sx [] dp' dm') := e
          injection e with e3 e4
          obtain ⟨-, rfl, rfl⟩ := S_inj e4
          subst e3
          have e2 : sepP (Jx B (c :: r) dp dm) = some ⟨B.r, dp + B.d, max (dm + B.d) B.k⟩ := by
            show (if c.2 = [59] ∨ c.2 = [10] then some (⟨skipL (r ++ B.z :: B.r), _, _⟩ : PS) else _) = _
            rw [if_pos hc, skip_all r _ hr, hzr]
          rw [e2]
          dsimp only
          rw [if_pos he]
        · have e2 : sepP (Jx B (c :: r) dp dm) = some (Jx B (skipL r) dp dm) := by
            rw [← sk_J _ _ _ _ hr]
            exact if_pos hc
          rw [e2]
          dsimp only at e ⊢
          have hp : Pr (skipL r) := hy.tail.skip
          generalize skipL r = q at e hp hr ⊢
          cases q with
          | nil => exact absurd rfl hr
          | cons c' r' =>
            have e : (if endsB c'.2 = true then PR.ok k (Sx (c' :: r') dp dm) else andT (andorP n (Sx (c' :: r') dp dm)) fun c s2 => andorsL n (k ++ [c]) s2) = _ := e
            show (if endsB c'.2 = true then PR.ok k (Jx B (c' :: r') dp dm) else andT (andorP n (Jx B (c' :: r') dp dm)) fun c s2 => andorsL n (k ++ [c]) s2) = _
            split
            · rename_i h
              rw [if_pos h] at e
              injection e with e3 e4
              obtain ⟨e5, -, -⟩ := S_inj e4
              cases e5
            · rename_i h
              rw [if_neg h] at e
              obtain ⟨a, s1, h1, h2⟩ := andT_ok e
              obtain ⟨y1, dp1, dm1, hy1, rfl, h3⟩ := (los B n).andor _ _ _ _ _ hp h1
              rw [h3]
              exact andorsl_end hz hs he n _ y1 dp1 dm1 l dp' dm' hy1 h2
      · have e1 : sepP (Sx (c :: r) dp dm) = none := if_neg hc
        rw [e1] at e
        injection e with e3 e4
        obtain ⟨e5, -, -⟩ := S_inj e4
        cases e5
theorem lon_end {B : Beh} (hz : B.z = (3, [10])) (hs : skipL B.r = B.r) (he : endsB (tx B.r) = true) {n : Nat} {y : List Tok} {dp dm : Nat} {l : List Cd} {s' : PS} (hy : Pr y) (hl : l ≠ []) (e : lonP n (Sx y dp dm) = .ok l s') (ht : tx s'.ts = []) :
    ∃ dm', s' = Sx [] dp dm' ∧ lonP n (Jx B y dp dm) = .ok l ⟨B.r, dp + B.d, max (dm' + B.d) B.k⟩ ∧ listP n (Jx B y dp dm) = .ok (aloneP l) ⟨B.r, dp + B.d, max (dm' + B.d) B.k⟩ := by
  obtain ⟨y', dp', dm', hy', rfl, -⟩ := (los B n).lon y dp dm l s' hy e
  obtain rfl := S_end hy' ht
  have hd : dp' = dp := (dps n).lon e
  subst hd
  refine ⟨dm', rfl, ?_⟩
  cases n with
  | zero => cases e
  | succ n =>
    rw [lonP] at e ⊢
    rw [listP]
    rw [sk_S] at e
    by_cases hr : skipL y = []
    · rw [hr] at e
      have e : PR.ok [] (Sx [] dp' dm) = .ok l _ := e
      injection e with e1 e2
      exact absurd e1.symm hl
    · rw [sk_J _ _ _ _ hr]
      have hp : Pr (skipL y) := hy.skip
      generalize skipL y = q at e hp hr ⊢
      cases q with
      | nil => exact absurd rfl hr
      | cons c r =>
        have e : (if endsB c.2 = true then PR.ok [] (Sx (c :: r) dp' dm) else andorsP n (Sx (c :: r) dp' dm)) = _ := e
        by_cases h : endsB c.2 = true
        · rw [if_pos h] at e
          injection e with e1 e2
          exact absurd e1.symm hl
        · rw [if_neg h] at e
          have key : andorsP n (Jx B (c :: r) dp' dm) = .ok l ⟨B.r, dp' + B.d, max (dm' + B.d) B.k⟩ := by
            cases n with
            | zero => cases e
            | succ n =>
              rw [andorsP] at e ⊢
              obtain ⟨a, s1, h1, h2⟩ := andT_ok e
              obtain ⟨y1, dp1, dm1, hy1, rfl, h3⟩ := (los B n).andor _ _ _ _ _ hp h1
              rw [h3]
              exact andorsl_end hz hs he n _ y1 dp1 dm1 l dp' dm' hy1 h2
          constructor
          · show (if endsB c.2 = true then PR.ok [] (Jx B (c :: r) dp' dm) else andorsP n (Jx B (c :: r) dp' dm)) = _
            rw [if_neg h]
            exact key
          · show andT (andorsP n (Jx B (c :: r) dp' dm)) _ = _
            rw [key]
            rfl
/-- what andorsL tells has what it was handed ahead -/
theorem andorsl_len : ∀ (n : Nat) (k : List Cd) (s : PS) (l : List Cd) (s' : PS), andorsL n k s = .ok l s' → k.length ≤ l.length ∧ (k.length = l.length → k = l)
  | 0, _, _, _, _, e => by cases e
  | n + 1, k, s, l, s', e => by
    rw [andorsL] at e
    split at e
    · cases e; exact ⟨Nat.le_refl _, fun _ => rfl⟩
    · split at e
      · cases e; exact ⟨Nat.le_refl _, fun _ => rfl⟩
      · obtain ⟨a, s1, h1, h2⟩ := andT_ok e
        have := andorsl_len n _ _ _ _ h2
        simp only [List.length_append, List.length_singleton] at this
        exact ⟨by omega, fun h => by omega⟩
/-- a part: one command, and what is left behind it -/
structure PartP (x : List Tok) (c : Cd) (q : List Tok) (m : Nat) : Prop where
  ne : skipL x ≠ []
  pr : Pr x
  nend : endsB (tx (skipL x)) = false
  qok : Qok q
  prq : Pr q
  deep : m ≤ 60
  short : x.length ≤ 160
  par : ∀ n, 3000 ≤ n → andorP n (Sx (skipL x) 0 0) = .ok c (Sx q 0 m)
theorem tx_app {y X : List Tok} (h : y ≠ []) : tx (y ++ X) = tx y := by
  cases y with
  | nil => exact absurd rfl h
  | cons c r => rfl
def bEnd (k : Nat) : Beh := ⟨(4, []), [], 0, k, rfl, by decide, by decide, by decide, by decide⟩
/-- what one command by itself is, as a part -/
theorem part_of {x : List Tok} {c : Cd} (hp : Pr x) (hx : x.length ≤ 160) (h : scriptP 100000 (x ++ [(4, [])]) = .ok [c]) : ∃ q m, PartP x c q m := by
  unfold scriptP at h
  generalize hl : lonP 100000 ⟨x ++ [(4, [])], 0, 0⟩ = R at h
  have e : lonP (99999 + 1) (Sx x 0 0) = R := hl
  cases R with
  | out => cases h
  | bad => cases h
  | ok l s' =>
    dsimp only at h
    split at h
    · rename_i ht
      split at h
      · cases h
      · rename_i hd
        injection h with h
        subst h
        obtain ⟨y', dp', dm', hy', rfl, -⟩ := (los (bEnd 0) _).lon x 0 0 _ s' hp e
        obtain rfl := S_end hy' ht
        rw [lonP, sk_S] at e
        have hne : skipL x ≠ [] := fun e0 => by
          rw [e0] at e
          have e : PR.ok [] (Sx [] 0 0) = .ok [c] _ := e
          injection e with e1 e2
          cases e1
        have t1 : tx (Sx (skipL x) 0 0).ts = tx (skipL x) := tx_app hne
        have hb : endsB (tx (skipL x)) = false := by
          cases hb : endsB (tx (skipL x)) with
          | false => rfl
          | true =>
            rw [if_pos (t1.symm ▸ hb)] at e
            injection e with e1 e2
            cases e1
        rw [if_neg (by rw [t1, hb]; decide)] at e
        have e : andorsP (99998 + 1) (Sx (skipL x) 0 0) = .ok [c] (Sx [] dp' dm') := e
        rw [andorsP] at e
        obtain ⟨a, s1, h1, h2⟩ := andT_ok e
        have hl1 := andorsl_len _ _ _ _ _ h2
        obtain rfl : a = c := by
          have := hl1.2 rfl
          injection this
        obtain ⟨q, dq, mq, hq, rfl, -⟩ := (los (bEnd 0) _).andor _ _ _ _ _ hp.skip h1
        obtain rfl : dq = 0 := (dps _).andor h1
        have h2 : andorsL (99997 + 1) [a] (Sx q 0 mq) = .ok [a] (Sx [] dp' dm') := h2
        rw [andorsL] at h2
        have hln : ln (Sx (skipL x) 0 0) ≤ 161 := by
          have := skip_len x
          simp [ln]
          omega
        have hpar : ∀ n, 3000 ≤ n → andorP n (Sx (skipL x) 0 0) = .ok a (Sx q 0 mq) := fun n hn => by
          rw [← h1]
          exact andor_fuel (by omega) (by omega)
        have hqm : Qok q ∧ mq = dm' := by
          cases q with
          | nil =>
            have h2 : PR.ok [a] (Sx [] 0 mq) = .ok [a] (Sx [] dp' dm') := h2
            injection h2 with e3 e4
            exact ⟨.inl rfl, (S_inj e4).2.2⟩
          | cons t r =>
            by_cases hc : t.2 = [59] ∨ t.2 = [10]
            · have e1 : sepP (Sx (t :: r) 0 mq) = some (Sx (skipL r) 0 mq) := by
                rw [← sk_S]
                exact if_pos hc
              rw [e1] at h2
              dsimp only at h2
              split at h2
              · injection h2 with e3 e4
                have := S_inj e4
                exact ⟨.inr ⟨t, r, rfl, hc, this.1⟩, this.2.2⟩
              · obtain ⟨b, s2, h3, h4⟩ := andT_ok h2
                have := (andorsl_len _ _ _ _ _ h4).1
                simp at this
            · have e1 : sepP (Sx (t :: r) 0 mq) = none := if_neg hc
              rw [e1] at h2
              injection h2 with e3 e4
              have := (S_inj e4).1
              cases this
        exact ⟨q, mq, hne, hp, hb, hqm.1, hq, by rw [hqm.2]; have hd : ¬ 60 < dm' := hd; omega, hx, hpar⟩
    · cases h
/-- what stands behind a command leads to these commands -/
def Goes (R : List Tok) (cs : List Cd) : Prop := ∀ n l M, M ≤ 60 → 4000 + cs.length ≤ n → ∃ M', M' ≤ 60 ∧ andorsL n l ⟨R, 0, M⟩ = .ok (l ++ cs) ⟨[(4, [])], 0, M'⟩
theorem goes_end : Goes [(4, [])] [] := fun n l M hM hn => by
  obtain ⟨n, rfl⟩ : ∃ m, n = m + 1 := ⟨n - 1, by omega⟩
  exact ⟨M, hM, by rw [andorsL, List.append_nil]; rfl⟩
theorem goes_sep {t : Tok} {r : List Tok} (ht : sepT t.2) (hr : skipL r = [(4, [])]) : Goes (t :: r) [] := fun n l M hM hn => by
  obtain ⟨n, rfl⟩ : ∃ m, n = m + 1 := ⟨n - 1, by omega⟩
  refine ⟨M, hM, ?_⟩
  have e1 : sepP ⟨t :: r, 0, M⟩ = some ⟨[(4, [])], 0, M⟩ := by
    show (if t.2 = [59] ∨ t.2 = [10] then some (⟨skipL r, 0, M⟩ : PS) else _) = _
    rw [if_pos ht, hr]
  rw [andorsL, e1, List.append_nil]
  rfl
theorem goes_step {t : Tok} {r x q : List Tok} {c : Cd} {m : Nat} {z : Tok} {Z : List Tok} {cs : List Cd} (ht : sepT t.2) (hp : PartP x c q m) (hr : skipL r = skipL x ++ z :: Z)
    (red : redB z.2 = false) (wd : z.1 ≠ 1) (p1 : z.2 ≠ [124]) (p2 : z.2 ≠ [124, 124]) (p3 : z.2 ≠ [38, 38]) (hg : Goes (q ++ z :: Z) cs) : Goes (t :: r) (c :: cs) := fun n l M hM hn => by
  obtain ⟨n, rfl⟩ : ∃ m, n = m + 1 := ⟨n - 1, by omega⟩
  simp only [List.length_cons] at hn
  have e1 : sepP ⟨t :: r, 0, M⟩ = some ⟨skipL x ++ z :: Z, 0, M⟩ := by
    show (if t.2 = [59] ∨ t.2 = [10] then some (⟨skipL r, 0, M⟩ : PS) else _) = _
    rw [if_pos ht, hr]
  let B : Beh := ⟨z, Z, 0, M, red, wd, p1, p2, p3⟩
  obtain ⟨y', dp', dm', -, e2, e3⟩ := (los B n).andor (skipL x) 0 0 c _ hp.pr.skip (hp.par n (by omega))
  obtain ⟨rfl, rfl, rfl⟩ := S_inj e2
  have hM' : max m M ≤ 60 := by have := hp.deep; omega
  obtain ⟨M', hM2, h4⟩ := hg n (l ++ [c]) (max m M) hM' (by omega)
  refine ⟨M', hM2, ?_⟩
  rw [andorsL, e1]
  dsimp only
  rw [if_neg (by rw [tx_app hp.ne, hp.nend]; decide)]
  have e5 : (⟨skipL x ++ z :: Z, 0, M⟩ : PS) = Jx B (skipL x) 0 0 := by
    show (⟨skipL x ++ z :: Z, 0, M⟩ : PS) = ⟨skipL x ++ z :: Z, 0 + 0, max (0 + 0) M⟩
    rw [show max (0 + 0) M = M by omega]
  rw [e5, e3]
  show andorsL n (l ++ [c]) ⟨q ++ z :: Z, 0 + 0, max (m + 0) M⟩ = _
  rw [show max (m + 0) M = max m M by omega]
  rw [show (0 : Nat) + 0 = 0 from rfl, h4]
  simp
/-- the first part, and then the others -/
theorem goes_start {x q : List Tok} {c : Cd} {m : Nat} {z : Tok} {Z : List Tok} {cs : List Cd} (hp : PartP x c q m) (red : redB z.2 = false) (wd : z.1 ≠ 1) (p1 : z.2 ≠ [124]) (p2 : z.2 ≠ [124, 124]) (p3 : z.2 ≠ [38, 38]) (hg : Goes (q ++ z :: Z) cs) (hn : cs.length ≤ 5000) : scriptP 100000 (x ++ z :: Z) = .ok (c :: cs) := by
  let B : Beh := ⟨z, Z, 0, 0, red, wd, p1, p2, p3⟩
  obtain ⟨y', dp', dm', -, e2, e3⟩ := (los B 99998).andor (skipL x) 0 0 c _ hp.pr.skip (hp.par 99998 (by omega))
  obtain ⟨rfl, rfl, rfl⟩ := S_inj e2
  obtain ⟨M', hM2, h4⟩ := hg 99998 [c] m hp.deep (by omega)
  have key : lonP (99999 + 1) ⟨x ++ z :: Z, 0, 0⟩ = .ok (c :: cs) ⟨[(4, [])], 0, M'⟩ := by
    rw [lonP]
    have e5 : (⟨x ++ z :: Z, 0, 0⟩ : PS).sk = Jx B (skipL x) 0 0 := by
      show (⟨skipL (x ++ z :: Z), 0, 0⟩ : PS) = ⟨skipL x ++ z :: Z, 0 + 0, max (0 + 0) 0⟩
      rw [skip_more _ _ hp.ne]
      rfl
    rw [e5]
    have t1 : tx (Jx B (skipL x) 0 0).ts = tx (skipL x) := tx_app hp.ne
    rw [if_neg (by rw [t1, hp.nend]; decide)]
    show andorsP (99998 + 1) _ = _
    rw [andorsP, e3]
    show andorsL 99998 [c] ⟨q ++ z :: Z, 0 + 0, max (m + 0) 0⟩ = _
    rw [show max (m + 0) 0 = m by omega, show (0 : Nat) + 0 = 0 from rfl, h4]
    rfl
  unfold scriptP
  have key : lonP 100000 ⟨x ++ z :: Z, 0, 0⟩ = .ok (c :: cs) ⟨[(4, [])], 0, M'⟩ := key
  rw [key]
  show (if tx [((4, []) : Tok)] = [] then (if 60 < M' then _ else _) else _) = _
  rw [if_pos (show tx [((4, []) : Tok)] = [] from rfl), if_neg (by omega)]
abbrev nlT : Tok := (3, [10])
abbrev smT : Tok := (2, [59])
def lnsT : List (List Tok) → List Tok
  | [] => [(4, [])]
  | x :: r => x ++ nlT :: lnsT r
def smsT : List Tok → List (List Tok) → List Tok
  | x, [] => x ++ [(4, [])]
  | x, y :: r => x ++ smT :: smsT y r
theorem q_sep {q : List Tok} (hq : Qok q) (z : Tok) (hz : sepT z.2) (X : List Tok) (hX : skipL (z :: X) = skipL X ∨ q = []) : ∃ t r, q ++ z :: X = t :: r ∧ sepT t.2 ∧ skipL r = skipL X := by
  rcases hq with rfl | ⟨t, r, rfl, ht, hr⟩
  · exact ⟨z, X, rfl, hz, rfl⟩
  · rcases hX with hX | h
    · exact ⟨t, r ++ z :: X, rfl, ht, by rw [skip_all r _ hr, hX]⟩
    · cases h
theorem goes_lines : ∀ (ps : List (List Tok × Cd)), (∀ p ∈ ps, ∃ q m, PartP p.1 p.2 q m) → ∀ q, Qok q → Goes (q ++ nlT :: lnsT (ps.map (·.1))) (ps.map (·.2))
  | [], _, q, hq => by
    obtain ⟨t, r, e, ht, hr⟩ := q_sep hq nlT (.inr rfl) [(4, [])] (.inl rfl)
    show Goes (q ++ nlT :: [(4, [])]) []
    rw [e]
    exact goes_sep ht hr
  | p :: ps, h, q, hq => by
    obtain ⟨q2, m2, hp⟩ := h p (List.mem_cons_self ..)
    have ih := goes_lines ps (fun a ha => h a (List.mem_cons_of_mem _ ha)) q2 hp.qok
    obtain ⟨t, r, e, ht, hr⟩ := q_sep hq nlT (.inr rfl) (p.1 ++ nlT :: lnsT (ps.map (·.1))) (.inl rfl)
    show Goes (q ++ nlT :: (p.1 ++ nlT :: lnsT (ps.map (·.1)))) (p.2 :: ps.map (·.2))
    rw [e]
    exact goes_step ht hp (hr.trans (skip_more _ _ hp.ne)) rfl (by decide) (by decide) (by decide) (by decide) ih
theorem goes_semis : ∀ (ps : List (List Tok × Cd)) (p : List Tok × Cd), (∀ a ∈ p :: ps, ∃ m, PartP a.1 a.2 [] m) → Goes (smT :: smsT p.1 (ps.map (·.1))) (p.2 :: ps.map (·.2))
  | [], p, h => by
    obtain ⟨m, hp⟩ := h p (List.mem_cons_self ..)
    exact goes_step (.inl rfl) hp (skip_more _ _ hp.ne) rfl (by decide) (by decide) (by decide) (by decide) goes_end
  | p2 :: ps, p, h => by
    obtain ⟨m, hp⟩ := h p (List.mem_cons_self ..)
    have ih := goes_semis ps p2 fun a ha => h a (List.mem_cons_of_mem _ ha)
    exact goes_step (.inl rfl) hp (skip_more _ _ hp.ne) rfl (by decide) (by decide) (by decide) (by decide) ih
theorem script_lines : ∀ (ps : List (List Tok × Cd)), ps.length ≤ 4000 → (∀ p ∈ ps, ∃ q m, PartP p.1 p.2 q m) → scriptP 100000 (lnsT (ps.map (·.1))) = .ok (ps.map (·.2))
  | [], _, _ => rfl
  | p :: ps, hn, h => by
    obtain ⟨q2, m2, hp⟩ := h p (List.mem_cons_self ..)
    exact goes_start hp rfl (by decide) (by decide) (by decide) (by decide) (goes_lines ps (fun a ha => h a (List.mem_cons_of_mem _ ha)) q2 hp.qok) (by simp at hn ⊢; omega)
theorem script_semis : ∀ (ps : List (List Tok × Cd)) (p : List Tok × Cd), ps.length ≤ 4000 → (∀ a ∈ p :: ps, ∃ m, PartP a.1 a.2 [] m) → scriptP 100000 (smsT p.1 (ps.map (·.1))) = .ok (p.2 :: ps.map (·.2))
  | [], p, _, h => by
    obtain ⟨m, hp⟩ := h p (List.mem_cons_self ..)
    exact goes_start hp rfl (by decide) (by decide) (by decide) (by decide) goes_end (by simp)
  | p2 :: ps, p, hn, h => by
    obtain ⟨m, hp⟩ := h p (List.mem_cons_self ..)
    exact goes_start hp rfl (by decide) (by decide) (by decide) (by decide) (goes_semis ps p2 fun a ha => h a (List.mem_cons_of_mem _ ha)) (by simp at hn ⊢; omega)
end Go.Proofs.YtcemlhfodpelaaaGreatDoor
namespace Go.Proofs.YtcemlhfodpelaaaGreatDoor
open Go.RowKit

def Sf {α : Type} (f : PS → PR α) : Prop := ∀ s a s', f s = .ok a s' → s'.ts <:+ s.ts
theorem skip_suf : ∀ (l : List Tok), skipL l <:+ l
  | [] => List.suffix_refl _
  | t :: r => by
    unfold skipL
    split
    · exact (skip_suf r).trans (List.suffix_cons ..)
    · exact List.suffix_refl _
theorem Sf.and {α β : Type} {f : PS → PR α} {g : α → PS → PR β} (hf : Sf f) (hg : ∀ a, Sf (g a)) : Sf (fun s => andT (f s) g) := fun s b s' e => by
  obtain ⟨a, s1, h1, h2⟩ := andT_ok e
  exact (hg a _ _ _ h2).trans (hf _ _ _ h1)
theorem Sf.sk {α : Type} {f : PS → PR α} (hf : Sf f) : Sf (fun s => f s.sk) := fun _ _ _ e => (hf _ _ _ e).trans (skip_suf _)
theorem Sf.nx {α : Type} {f : PS → PR α} (hf : Sf f) : Sf (fun s => f s.nx) := fun _ _ _ e => (hf _ _ _ e).trans (List.tail_suffix _)
theorem Sf.ite {α : Type} {f g : PS → PR α} {p : PS → Prop} [∀ s, Decidable (p s)] (hf : Sf f) (hg : Sf g) : Sf (fun s => if p s then f s else g s) := fun s a s' e => by
  dsimp only at e
  split at e
  · exact hf _ _ _ e
  · exact hg _ _ _ e
theorem Sf.ok {α : Type} (a : α) : Sf (fun s => PR.ok a s) := fun s b s' e => by cases e; exact List.suffix_refl _
theorem Sf.bad {α : Type} : Sf (fun _ => (PR.bad : PR α)) := fun s b s' e => by cases e
theorem Sf.of {α : Type} {f g : PS → PR α} (he : ∀ s, f s = g s) (h : Sf g) : Sf f := fun s a s' e => h s a s' (by rw [← he]; exact e)
theorem want_s (t : Bs) : Sf (wantP t) := fun s a s' e => by
  unfold wantP at e
  split at e
  · cases e; exact List.tail_suffix _
  · cases e
theorem word_s : Sf wordP := fun s a s' e => by
  unfold wordP at e
  split at e
  · cases e; exact List.tail_suffix _
  · cases e
theorem name_s : Sf nameP := fun s a s' e => by
  unfold nameP at e
  split at e
  · cases e; exact List.tail_suffix _
  · cases e
theorem redir_s : Sf redirP := fun s a s' e => by
  unfold redirP at e
  obtain ⟨a, s1, h1, h2⟩ := andT_ok e
  cases h2
  exact (word_s _ _ _ h1).trans (List.tail_suffix _)
theorem redirs_s : ∀ (n : Nat) (l : List (Bs × Bs)), Sf (redirsP n l)
  | 0, _ => fun _ _ _ e => by cases e
  | n + 1, l => Sf.of (fun s => by rw [redirsP]) (Sf.ite (f := fun s => andT (redirP s) fun r s' => redirsP n (l ++ [r]) s') (redir_s.and fun r => redirs_s n _) (Sf.ok l))
theorem simple_s : ∀ (n : Nat) (b : Bool) (ag ws : List Bs) (rs : List (Bs × Bs)), Sf (simpleP n b ag ws rs)
  | 0, _, _, _, _ => fun _ _ _ e => by cases e
  | n + 1, b, ag, ws, rs => fun s a s' e => by
    rw [simpleP] at e
    split at e
    · obtain ⟨a, s1, h1, h2⟩ := andT_ok e
      exact (simple_s n _ _ _ _ _ _ _ h2).trans (redir_s _ _ _ h1)
    · split at e
      · split at e
        · exact (simple_s n _ _ _ _ _ _ _ e).trans (List.tail_suffix _)
        · exact (simple_s n _ _ _ _ _ _ _ e).trans (List.tail_suffix _)
      · split at e
        · cases e; exact List.suffix_refl _
        · cases e
theorem words_s : ∀ (n : Nat) (l : List Bs), Sf (wordsP n l)
  | 0, _ => fun _ _ _ e => by cases e
  | n + 1, l => fun s a s' e => by
    rw [wordsP] at e
    split at e
    · exact (words_s n _ _ _ _ e).trans (List.tail_suffix _)
    · cases e; exact List.suffix_refl _
theorem pats_s : ∀ (n : Nat) (l : List Bs), Sf (patsP n l)
  | 0, _ => fun _ _ _ e => by cases e
  | n + 1, l => Sf.of (fun s => by rw [patsP]) (Sf.ite (f := fun s => andT (wordP s.nx) fun w s' => patsP n (l ++ [w]) s') (Sf.and (word_s.nx) fun w => pats_s n _) (Sf.ok l))
theorem sep_s {s s' : PS} (h : sepP s = some s') : s'.ts <:+ s.ts := by
  unfold sepP at h
  split at h
  · cases h
    exact (skip_suf _).trans (List.tail_suffix _)
  · cases h
structure Sus (n : Nat) : Prop where
  andors : Sf (andorsP n)
  andorsl : ∀ k, Sf (andorsL n k)
  andor : Sf (andorP n)
  andorl : ∀ k, Sf (andorL n k)
  pipe : Sf (pipeP n)
  pipel : ∀ b k, Sf (pipeL n b k)
  command : Sf (commandP n)
  list : Sf (listP n)
  lon : Sf (lonP n)
  form : ∀ f, Sf (formP n f)
  choice : Sf (choiceP n)
  while_ : ∀ b, Sf (whileP n b)
  do_ : Sf (doP n)
  arms : ∀ k, Sf (armsP n k)
  arm : Sf (armP n)
theorem sus : ∀ n, Sus n
  | 0 => by constructor <;> (intros; intro _ _ _ e; cases e)
  | n + 1 => by
    have ih := sus n
    constructor
    · exact Sf.of (fun s => by rw [andorsP]) (Sf.and (g := fun c s' => andorsL n [c] s') ih.andor fun c => ih.andorsl _)
    · intro k s a s' e
      rw [andorsL] at e
      split at e
      · cases e; exact List.suffix_refl _
      · rename_i s1 hs
        split at e
        · cases e; exact sep_s hs
        · obtain ⟨a, s2, h1, h2⟩ := andT_ok e
          exact ((ih.andorsl _ _ _ _ h2).trans (ih.andor _ _ _ h1)).trans (sep_s hs)
    · exact Sf.of (fun s => by rw [andorP]) (Sf.and (g := fun c s' => andorL n c s') ih.pipe fun c => ih.andorl _)
    · intro k
      exact Sf.of (fun s => by rw [andorL]) (Sf.ite (f := fun s => andT (pipeP n s.nx.sk) fun d s' => andorL n (.mk 4 false [] [] [] [k, d] []) s') (Sf.and (Sf.nx (f := fun s => pipeP n s.sk) ih.pipe.sk) fun d => ih.andorl _) (Sf.ite (f := fun s => andT (pipeP n s.nx.sk) fun d s' => andorL n (.mk 3 false [] [] [] [k, d] []) s') (Sf.and (Sf.nx (f := fun s => pipeP n s.sk) ih.pipe.sk) fun d => ih.andorl _) (Sf.ok k)))
    · intro s a s' e
      rw [pipeP] at e
      obtain ⟨a, s1, h1, h2⟩ := andT_ok e
      have h3 := ih.command _ _ _ h1
      refine (ih.pipel _ _ _ _ _ h2).trans (h3.trans ?_)
      split
      · exact List.tail_suffix _
      · exact List.suffix_refl _
    · intro b k
      exact Sf.of (fun s => by rw [pipeL]) (Sf.ite (f := fun s => andT (commandP n s.nx.sk) fun c s' => pipeL n b (k ++ [c]) s') (Sf.and (Sf.nx (f := fun s => commandP n s.sk) ih.command.sk) fun d => ih.pipel _ _) (Sf.ok _))
    · intro s a s' e
      rw [commandP] at e
      split at e
      · split at e
        · cases e
        · exact simple_s n _ _ _ _ _ _ _ e
      · obtain ⟨a1, s1, h1, h2⟩ := andT_ok e
        have h3 := ih.form _ _ _ _ h1
        obtain ⟨k, b, ag, ws, rs, ks, ar⟩ := a1
        dsimp only at h2
        obtain ⟨a2, s2, h4, h5⟩ := andT_ok h2
        cases h5
        exact (redirs_s n _ _ _ _ h4).trans (h3.trans (List.tail_suffix _))
    · exact Sf.of (fun s => by rw [listP]) (Sf.and (g := fun l s' => .ok (aloneP l) s') ih.andors.sk fun l => Sf.ok _)
    · exact Sf.of (fun s => by rw [lonP]) (Sf.ite (f := fun s => .ok [] s.sk) (Sf.sk (f := fun s => .ok [] s) (Sf.ok [])) ih.andors.sk)
    · intro f
      cases f with
      | sub => exact Sf.of (fun s => by rw [formP]) (ih.list.and fun c => Sf.and (g := fun _ s2 => .ok (.mk 11 false [] [] [] [c] []) s2) (want_s _) fun _ => Sf.ok _)
      | grp => exact Sf.of (fun s => by rw [formP]) (ih.list.and fun c => Sf.and (g := fun _ s2 => .ok (.mk 10 false [] [] [] [c] []) s2) (want_s _) fun _ => Sf.ok _)
      | cho => exact Sf.of (fun s => by rw [formP]) ih.choice
      | whl => exact Sf.of (fun s => by rw [formP]) (ih.while_ _)
      | unt => exact Sf.of (fun s => by rw [formP]) (ih.while_ _)
      | fr =>
        intro s a s' e
        rw [formP] at e
        obtain ⟨nm, s1, h1, e⟩ := andT_ok e
        obtain ⟨ws, s2, h2, e⟩ := andT_ok e
        obtain ⟨c, s3, h3, e⟩ := andT_ok e
        cases e
        have a1 := name_s _ _ _ h1
        have a2 : s2.ts <:+ s1.ts := by
          split at h2
          · exact (words_s n _ _ _ _ h2).trans ((List.tail_suffix _).trans (skip_suf _))
          · cases h2; exact skip_suf _
        have a3 := ih.do_ _ _ _ h3
        refine a3.trans (List.IsSuffix.trans ?_ (a2.trans a1))
        split
        · rename_i s4 hs; exact sep_s hs
        · exact List.suffix_refl _
      | cas => exact Sf.of (fun s => by rw [formP]) (word_s.and fun w => Sf.and (Sf.sk (want_s _)) fun _ => Sf.and (g := fun ar s3 => .ok (.mk 9 false [] [w] [] [] ar) s3) (Sf.sk (ih.arms [])) fun ar => Sf.ok _)
    · intro s a s' e
      rw [choiceP] at e
      obtain ⟨a1, s1, h1, e⟩ := andT_ok e
      obtain ⟨a2, s2, h2, e⟩ := andT_ok e
      obtain ⟨a3, s3, h3, e⟩ := andT_ok e
      have b1 := ((ih.list _ _ _ h3).trans (want_s _ _ _ _ h2)).trans (ih.list _ _ _ h1)
      split at e
      · obtain ⟨a4, s4, h4, e⟩ := andT_ok e
        cases e
        exact ((ih.choice _ _ _ h4).trans (List.tail_suffix _)).trans b1
      · split at e
        · obtain ⟨a4, s4, h4, e⟩ := andT_ok e
          obtain ⟨a5, s5, h5, e⟩ := andT_ok e
          cases e
          exact (((want_s _ _ _ _ h5).trans (ih.list _ _ _ h4)).trans (List.tail_suffix _)).trans b1
        · obtain ⟨a4, s4, h4, e⟩ := andT_ok e
          cases e
          exact (want_s _ _ _ _ h4).trans b1
    · intro b
      exact Sf.of (fun s => by rw [whileP]) (ih.list.and fun a => Sf.and (g := fun c s2 => .ok (.mk 7 b [] [] [] [a, c] []) s2) ih.do_ fun c => Sf.ok _)
    · exact Sf.of (fun s => by rw [doP]) ((want_s _).and fun _ => ih.list.and fun c => Sf.and (g := fun _ s3 => .ok c s3) (want_s _) fun _ => Sf.ok _)
    · intro k
      exact Sf.of (fun s => by rw [armsP]) (Sf.ite (f := fun s => .ok k s.nx) (Sf.nx (f := fun s => .ok k s) (Sf.ok k)) (Sf.and (g := fun a s' => armsP n (k ++ [a]) s') ih.arm fun a => ih.arms _))
    · intro s a s' e
      rw [armP] at e
      obtain ⟨a1, s1, h1, e⟩ := andT_ok e
      obtain ⟨a2, s2, h2, e⟩ := andT_ok e
      obtain ⟨a3, s3, h3, e⟩ := andT_ok e
      obtain ⟨a4, s4, h4, e⟩ := andT_ok e
      have b0 : s1.ts <:+ s.ts := by
        refine (word_s _ _ _ h1).trans ?_
        split
        · exact List.tail_suffix _
        · exact List.suffix_refl _
      have b1 := (((ih.lon _ _ _ h4).trans (want_s _ _ _ _ h3)).trans (pats_s n _ _ _ _ h2)).trans b0
      split at e
      · cases e
        exact ((skip_suf _).trans (List.tail_suffix _)).trans b1
      · split at e
        · cases e; exact b1
        · cases e
end Go.Proofs.YtcemlhfodpelaaaGreatDoor
