/- Compounds within one another: what the lexer and the parser tell of them, seventy deep and less: plain, by computing. -/
import Derived.Test.YtcemlhfodpelaaaGreatDoorZp
import Derived.Test.YtcemlhfodpelaaaGreatDoorPl
namespace Go.Proofs.YtcemlhfodpelaaaGreatDoor
open Go.RowKit

def rdS : Nat → Bs
  | 0 => [97]
  | n + 1 => 40 :: 32 :: (rdS n ++ [32, 41])
def grS : Nat → Bs
  | 0 => [97]
  | n + 1 => 123 :: 32 :: (grS n ++ [59, 32, 125])
def rdT : Nat → List Tok → List Tok
  | 0, r => (1, [97]) :: r
  | n + 1, r => (2, [40]) :: rdT n ((2, [41]) :: r)
def grT : Nat → List Tok → List Tok
  | 0, r => (1, [97]) :: r
  | n + 1, r => (1, [123]) :: grT n ((2, [59]) :: (1, [125]) :: r)
def lexB (s : Bs) (tk : List Tok) : Bool := match run s (3 * s.length + 10) .bw ⟨0, 0, [], []⟩ with
  | .toks l => l == tk
  | _ => false
def scB (n : Nat) (tk : List Tok) (k : Nat) : Bool := match scriptP n tk with
  | .ok _ => k == 0
  | .err m => m == k && k != 0
  | .none => false
def goodB : List Tok → Bool
  | [] => false
  | [t] => t == (4, [])
  | t :: r => !t.2.isEmpty && t.1 != 4 && goodB r
theorem good_of : ∀ {l : List Tok}, goodB l = true → Good l
  | [], h => by cases h
  | [t], h => by
    have : t = (4, []) := by simpa [goodB] using h
    rw [this]
    exact .last
  | t :: a :: r, h => by
    simp only [goodB, Bool.and_eq_true, Bool.not_eq_true', bne_iff_ne] at h
    exact .cons t _ (fun e => by have := h.1.1; rw [e] at this; cases this) h.1.2 (good_of h.2)
def formB (t : Tok) : Bool := match formOf t.2 with
  | none => true
  | some .sub => true
  | some .grp => true
  | _ => false
theorem form_of {t : Tok} (h : formB t = true) : formOf t.2 = none ∨ formOf t.2 = some .sub ∨ formOf t.2 = some .grp := by
  unfold formB at h
  split at h
  · rename_i e; exact .inl e
  · rename_i e; exact .inr (.inl e)
  · rename_i e; exact .inr (.inr e)
  · cases h
/-- all that is asked of a text and its tokens -/
def allB (s : Bs) (tk : List Tok) (k : Nat) : Bool := lexB s tk && scB 1000 tk k && goodB tk && tk.all (fun t => formB t && decide (t.2.length ≤ 100000)) && s.all (fun c => c != 92) && decide (s.length ≤ 65536)
structure AllP (s : Bs) (tk : List Tok) (k : Nat) : Prop where
  lex : lexF s = .toks tk
  sc : (k = 0 ∧ ∃ l, scriptP 1000 tk = .ok l) ∨ (k ≠ 0 ∧ scriptP 1000 tk = .err k)
  good : Good tk
  len : ∀ t ∈ tk, t.2.length ≤ 100000
  form : ∀ t ∈ tk, formOf t.2 = none ∨ formOf t.2 = some .sub ∨ formOf t.2 = some .grp
theorem all_of {s : Bs} {tk : List Tok} {k : Nat} (h : allB s tk k = true) : AllP s tk k := by
  unfold allB at h
  simp only [Bool.and_eq_true, List.all_eq_true, decide_eq_true_eq, bne_iff_ne] at h
  obtain ⟨⟨⟨⟨⟨h1, h2⟩, h3⟩, h4⟩, h5⟩, h6⟩ := h
  refine ⟨?_, ?_, good_of h3, fun t ht => (h4 t ht).2, fun t ht => form_of (h4 t ht).1⟩
  · unfold lexF
    rw [if_neg (by omega), joined_no s h5]
    unfold lexB at h1
    split at h1
    · rename_i l e; rw [e]; congr; simpa using h1
    · cases h1
  · unfold scB at h2
    split at h2
    · rename_i l e; exact .inl ⟨by simpa using h2, l, e⟩
    · rename_i m e
      simp only [Bool.and_eq_true, beq_iff_eq, bne_iff_ne] at h2
      exact .inr ⟨h2.2, by rw [e, h2.1]⟩
    · cases h2
def al1S : Bs := [97, 61, 49, 32, 98, 32, 99, 32, 62, 100]
def al1T : List Tok := [(1, [97, 61, 49]), (1, [98]), (1, [99]), (2, [62]), (1, [100]), (4, [])]
def al2S : Bs := [97, 32, 38, 38]
def al2T : List Tok := [(1, [97]), (2, [38, 38]), (4, [])]
theorem al1 : AllP al1S al1T 0 := all_of (by kernel_rfl)
theorem al2 : AllP al2S al2T 31 := all_of (by kernel_rfl)
theorem al1_sc : scriptP 1000 al1T = .ok [.mk 1 false [[97, 61, 49]] [[98], [99]] [([62], [100])] [] []] := by kernel_rfl
end Go.Proofs.YtcemlhfodpelaaaGreatDoor
