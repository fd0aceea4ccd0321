/- The contracts of vars.Special and of the reference's: they answer the same. -/
import Derived.Test.YtillechackcbpaaZS0
import Derived.Test.YtillechackcbpaaZS1
import Derived.Test.YtillechackcbpaaZS2
import Derived.Test.YtillechackcbpaaZS3
import Derived.Test.YtillechackcbpaaZS4
import Derived.Test.YtillechackcbpaaZR0
import Derived.Test.YtillechackcbpaaZR1
import Derived.Test.YtillechackcbpaaZR2
import Derived.Test.YtillechackcbpaaZR3
namespace Go.Proofs.Ytillechackcbpaa.Sp
open Go.RowKit Go.Shelf Go.Maps Go.Proofs.Ytillechackcbpaa.Pa

theorem two_of {p : Bs} (h : p.length = 2) : ∃ c d, p = [c, d] := by
  match p, h with
  | [c, d], _ => exact ⟨c, d, rfl⟩
theorem special_any (A : Nat) (m : Option Nat) (L : Vs) (p : Bs) (w : World) (h : St w A m L) (hb : Bnd 300000 L) :
    Calls Try.prog 18 #[.pointer (some ⟨A, 0, none⟩), .string (mk p)] w fun r w' => r = .returned (.tuple #[.string (spec L p).1, .bool (spec L p).2]) ∧ Below w.heap.size w w' := by
  by_cases hp : p.length = 2
  · obtain ⟨c, d, rfl⟩ := two_of hp
    have hg := hb.get [c]
    show Calls _ _ _ _ fun r w' => r = .returned (.tuple #[.string (sp2 L c d).1, .bool (sp2 L c d).2]) ∧ _
    unfold sp2
    cases hc : isAuto c with
    | false =>
      refine (special_out A c d w hc).mono ?_
      rintro r w' ⟨rfl, rfl⟩
      exact ⟨rfl, Below.refl _ _⟩
    | true =>
      cases hf : (fnd L [c]).isSome with
      | false => exact sp_none A m L c d w h hc hf
      | true =>
        by_cases ho : (getV L [c]).origin = 7
        · rw [decide_eq_true ho, if_pos (show (true && (true && true)) = true from rfl)]
          by_cases h68 : d = 68
          · rw [if_pos h68]
            exact sp_d A m L c d w h hc hf ho hg h68
          · rw [if_neg h68]
            by_cases h70 : d = 70
            · rw [if_pos h70]
              exact sp_f A m L c d w h hc hf ho hg h70
            · rw [if_neg h70]
              exact sp_x A m L c d w h hc hf ho h68 h70
        · rw [decide_eq_false ho]
          exact sp_other A m L c d w h hc hf ho
  · rw [spec_no L p hp]
    refine (special_no A p w hp).mono ?_
    rintro r w' ⟨rfl, rfl⟩
    exact ⟨rfl, Below.refl _ _⟩
theorem rspecial_any (R : Nat) (v : Value) (L : Vs) (p : Bs) (w : World) (h : Rf w R v L) (hb : Bnd 300000 L) :
    Calls Try.prog 19 #[.pointer (some ⟨R, 0, none⟩), .string (mk p)] w fun r w' => r = .returned (.tuple #[.string (spec L p).1, .bool (spec L p).2]) ∧ Below w.heap.size w w' := by
  by_cases hp : p.length = 2
  · obtain ⟨c, d, rfl⟩ := two_of hp
    have hg := hb.get [c]
    show Calls _ _ _ _ fun r w' => r = .returned (.tuple #[.string (sp2 L c d).1, .bool (sp2 L c d).2]) ∧ _
    unfold sp2
    by_cases h68 : d = 68
    · rw [if_pos h68]
      cases hc : isAuto c with
      | false => exact rs_out68 R c d w h68 hc
      | true =>
        cases hf : (fnd L [c]).isSome with
        | false => exact rs_none68 R v L c d w h h68 hc hf
        | true =>
          by_cases ho : (getV L [c]).origin = 7
          · rw [decide_eq_true ho, if_pos (show (true && (true && true)) = true from rfl)]
            exact rs_d R v L c d w h h68 hc hf ho hg
          · rw [decide_eq_false ho]
            exact rs_other68 R v L c d w h h68 hc hf ho
    · rw [if_neg h68]
      by_cases h70 : d = 70
      · rw [if_pos h70]
        cases hc : isAuto c with
        | false => exact rs_out70 R c d w h70 hc
        | true =>
          cases hf : (fnd L [c]).isSome with
          | false => exact rs_none70 R v L c d w h h70 hc hf
          | true =>
            by_cases ho : (getV L [c]).origin = 7
            · rw [decide_eq_true ho, if_pos (show (true && (true && true)) = true from rfl)]
              exact rs_f R v L c d w h h70 hc hf ho hg
            · rw [decide_eq_false ho]
              exact rs_other70 R v L c d w h h70 hc hf ho
      · rw [if_neg h70, ite_self]
        exact rs_x R c d w h68 h70
  · rw [spec_no L p hp]
    refine (rs_no R p w hp).mono ?_
    rintro r w' ⟨rfl, rfl⟩
    exact ⟨rfl, Below.refl _ _⟩
end Go.Proofs.Ytillechackcbpaa.Sp
