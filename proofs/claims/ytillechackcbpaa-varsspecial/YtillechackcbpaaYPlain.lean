/- Of no program: the last place of a byte; the parts of a word. -/
import Derived.Test.YtillechackcbpaaWord
namespace Go.Proofs.Ytillechackcbpaa.Pa
open Go.RowKit
def lpd (c : UInt8) (l : List UInt8) : Nat → Nat
  | 0 => 0
  | k + 1 => if l.getD k 0 = c then k + 1 else lpd c l k
/- the same, but a slash ends the search -/
def lps (c : UInt8) (l : List UInt8) : Nat → Nat
  | 0 => 0
  | k + 1 => if l.getD k 0 = c then k + 1 else if l.getD k 0 = 47 then 0 else lps c l k
def lp (c : UInt8) (l : List UInt8) : Nat := lpd c l l.length
def sp (l : List UInt8) : Nat := if lps 46 l l.length = 0 then l.length else lps 46 l l.length - 1
def notDir (l : List UInt8) : List UInt8 := l.drop (lp 47 l)
def dir (l : List UInt8) : List UInt8 := if lp 47 l = 0 then [46, 47] else l.take (lp 47 l)
def suffix (l : List UInt8) : List UInt8 := l.drop (sp l)
def base (l : List UInt8) : List UInt8 := l.take (sp l)
theorem lps_47 (l : List UInt8) : ∀ k, lps 47 l k = lpd 47 l k := by
  intro k
  induction k with
  | zero => rfl
  | succ k ih =>
    unfold lps lpd
    split
    · rfl
    · exact ih
theorem lpd_le (c : UInt8) (l : List UInt8) : ∀ k, lpd c l k ≤ k := by
  intro k
  induction k with
  | zero => exact Nat.le_refl _
  | succ k ih =>
    unfold lpd
    split
    · omega
    · omega
theorem lps_le (c : UInt8) (l : List UInt8) : ∀ k, lps c l k ≤ k := by
  intro k
  induction k with
  | zero => exact Nat.le_refl _
  | succ k ih =>
    unfold lps
    split
    · omega
    · split
      · omega
      · omega
theorem lp_le (c : UInt8) (l : List UInt8) : lp c l ≤ l.length := lpd_le c l _
end Go.Proofs.Ytillechackcbpaa.Pa
