/- The parser of lists, over all tokens. -/
import Derived.Test.YtcemlhfodpelaaaGreatDoorGsm
import Derived.Test.YtcemlhfodpelaaaGreatDoorGco
import Derived.Test.YtcemlhfodpelaaaGreatDoorGpi
import Derived.Test.YtcemlhfodpelaaaGreatDoorGan
import Derived.Test.YtcemlhfodpelaaaGreatDoorGwh
import Derived.Test.YtcemlhfodpelaaaGreatDoorGch
import Derived.Test.YtcemlhfodpelaaaGreatDoorGca
namespace Go.Proofs.YtcemlhfodpelaaaGreatDoor
open Go.RowKit

structure La (x : Cx) (n : Nat) : Prop where
  andors : ∀ w s, PsAt w x s → andorsP n s ≠ .out → Calls Tryz.prog 63 #[ptr x.A] w (PrR x w (andorsP n s) (ListV w.heap.size))
  andor : ∀ w s, PsAt w x s → andorP n s ≠ .out → Calls Tryz.prog 84 #[ptr x.A] w (PrR x w (andorP n s) (CmdV w.heap.size))
  pipe : ∀ w s, PsAt w x s → pipeP n s ≠ .out → Calls Tryz.prog 100 #[ptr x.A] w (PrR x w (pipeP n s) (CmdV w.heap.size))
  command : ∀ w s, PsAt w x s → commandP n s ≠ .out → Calls Tryz.prog 126 #[ptr x.A] w (PrR x w (commandP n s) (CmdV w.heap.size))
  list : ∀ w s, PsAt w x s → listP n s ≠ .out → Calls Tryz.prog 53 #[ptr x.A] w (PrR x w (listP n s) (CmdV w.heap.size))
  lon : ∀ w s, PsAt w x s → lonP n s ≠ .out → Calls Tryz.prog 37 #[ptr x.A] w (PrR x w (lonP n s) (ListV w.heap.size))
  form : ∀ f w s, PsAt w x s → formP n f s ≠ .out → Calls Tryz.prog (fmN f) #[ptr x.A] w (PrR x w (formP n f s) (CmdV w.heap.size))
  choice : ∀ w s, PsAt w x s → choiceP n s ≠ .out → Calls Tryz.prog 32 #[ptr x.A] w (PrR x w (choiceP n s) (CmdV w.heap.size))
  whl : ∀ w s, PsAt w x s → whileP n false s ≠ .out → Calls Tryz.prog 33 #[ptr x.A] w (PrR x w (whileP n false s) (CmdV w.heap.size))
  body : ∀ w s, PsAt w x s → doP n s ≠ .out → Calls Tryz.prog 55 #[ptr x.A] w (PrR x w (doP n s) (CmdV w.heap.size))
  arm : ∀ w s, PsAt w x s → armP n s ≠ .out → Calls Tryz.prog 61 #[ptr x.A] w (PrR x w (armP n s) (ArmV w.heap.size))
theorem la (x : Cx) (hxl : ∀ t ∈ x.tk, t.2.length ≤ 100000) : ∀ n, n ≤ 1000000 → ∀ n', n' ≤ n → La x n' := by
  intro n
  induction n with
  | zero =>
    intro _ n' hn'
    obtain rfl : n' = 0 := by omega
    exact ⟨fun w s _ h => absurd rfl h, fun w s _ h => absurd rfl h, fun w s _ h => absurd rfl h, fun w s _ h => absurd rfl h, fun w s _ h => absurd rfl h, fun w s _ h => absurd rfl h, fun f w s _ h => absurd rfl h, fun w s _ h => absurd rfl h, fun w s _ h => absurd rfl h, fun w s _ h => absurd rfl h, fun w s _ h => absurd rfl h⟩
  | succ n ih =>
    intro hn n' hn'
    have ih := ih (by omega)
    by_cases hle : n' ≤ n
    · exact ih n' hle
    obtain rfl : n' = n + 1 := by omega
    have hl := ih n (Nat.le_refl _)
    refine ⟨andors_step (by omega) (fun m hm => (ih m hm).andor), andor_step (fun m hm => (ih m hm).pipe), pipe_step (by omega) (fun m hm => (ih m hm).command), fun w s h hne => ?_, list_step hl.andors, lon_step hl.andors, fun f w s h hne => ?_, choice_step hl.list hl.choice, while_step hl.list hl.body, do_step hl.list, arm_step (by omega) hl.lon⟩
    · obtain ⟨R, hR⟩ : ∃ R, commandP (n + 1) s = R := ⟨_, rfl⟩
      rw [hR] at hne ⊢
      cases hf : formOf (tx s.ts) with
      | none =>
        refine command_simple w s h R hR hf (fun w' h' => simple_step (n := n) (by omega) hxl w' s h' R ?_ hne) hne
        rw [← hR, commandP, hf]
      | some f => exact command_form (by omega) f (hl.form f) w s h R hR hf hne
    · cases f with
      | sub => exact sub_step hl.list w s h hne
      | grp => exact grp_step hl.list w s h hne
      | cho =>
        have e : formP (n + 1) .cho s = choiceP n s := by rw [formP]
        rw [e] at hne ⊢
        exact hl.choice w s h hne
      | whl =>
        have e : formP (n + 1) .whl s = whileP n false s := by rw [formP]
        rw [e] at hne ⊢
        exact hl.whl w s h hne
      | unt =>
        have e : formP (n + 1) .unt s = whileP n true s := by rw [formP]
        rw [e] at hne ⊢
        exact until_step hl.whl w s h hne
      | fr => exact for_step (by omega) hxl hl.body w s h hne
      | cas => exact case_step (by omega) (fun m hm => (ih m hm).arm) w s h hne
end Go.Proofs.YtcemlhfodpelaaaGreatDoor
