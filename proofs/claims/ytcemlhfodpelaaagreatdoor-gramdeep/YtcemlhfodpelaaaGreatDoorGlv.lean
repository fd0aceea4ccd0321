/- The parser of lists, where no compound but ( and { stands. -/
import Derived.Test.YtcemlhfodpelaaaGreatDoorGsm
import Derived.Test.YtcemlhfodpelaaaGreatDoorGco
import Derived.Test.YtcemlhfodpelaaaGreatDoorGpi
import Derived.Test.YtcemlhfodpelaaaGreatDoorGan
namespace Go.Proofs.YtcemlhfodpelaaaGreatDoor
open Go.RowKit

structure Lv (x : Cx) (n : Nat) : Prop where
  andors : ∀ w s, PsAt w x s → andorsP n s ≠ .out → Calls Tryz.prog 63 #[ptr x.A] w (PrR x w (andorsP n s) (ListV w.heap.size))
  andor : ∀ w s, PsAt w x s → andorP n s ≠ .out → Calls Tryz.prog 84 #[ptr x.A] w (PrR x w (andorP n s) (CmdV w.heap.size))
  pipe : ∀ w s, PsAt w x s → pipeP n s ≠ .out → Calls Tryz.prog 100 #[ptr x.A] w (PrR x w (pipeP n s) (CmdV w.heap.size))
  command : ∀ w s, PsAt w x s → commandP n s ≠ .out → Calls Tryz.prog 126 #[ptr x.A] w (PrR x w (commandP n s) (CmdV w.heap.size))
  list : ∀ w s, PsAt w x s → listP n s ≠ .out → Calls Tryz.prog 53 #[ptr x.A] w (PrR x w (listP n s) (CmdV w.heap.size))
  lon : ∀ w s, PsAt w x s → lonP n s ≠ .out → Calls Tryz.prog 37 #[ptr x.A] w (PrR x w (lonP n s) (ListV w.heap.size))
  sub : ∀ w s, PsAt w x s → formP n .sub s ≠ .out → Calls Tryz.prog 30 #[ptr x.A] w (PrR x w (formP n .sub s) (CmdV w.heap.size))
  grp : ∀ w s, PsAt w x s → formP n .grp s ≠ .out → Calls Tryz.prog 31 #[ptr x.A] w (PrR x w (formP n .grp s) (CmdV w.heap.size))
theorem lv (x : Cx) (hxl : ∀ t ∈ x.tk, t.2.length ≤ 100000) (hx : ∀ t ∈ x.tk, formOf t.2 = none ∨ formOf t.2 = some .sub ∨ formOf t.2 = some .grp) : ∀ n, n ≤ 1000000 → ∀ n', n' ≤ n → Lv x n' := by
  intro n
  induction n with
  | zero =>
    intro _ n' hn'
    obtain rfl : n' = 0 := by omega
    exact ⟨fun w s _ h => absurd rfl h, fun w s _ h => absurd rfl h, fun w s _ h => absurd rfl h, fun w s _ h => absurd rfl h, fun w s _ h => absurd rfl h, fun w s _ h => absurd rfl h, fun w s _ h => absurd rfl h, fun w s _ h => absurd rfl h⟩
  | succ n ih =>
    intro hn n' hn'
    have ih := ih (by omega)
    by_cases hle : n' ≤ n
    · exact ih n' hle
    obtain rfl : n' = n + 1 := by omega
    have hl := ih n (Nat.le_refl _)
    refine ⟨andors_step (by omega) (fun m hm => (ih m hm).andor), andor_step (fun m hm => (ih m hm).pipe), pipe_step (by omega) (fun m hm => (ih m hm).command), fun w s h hne => ?_, list_step hl.andors, lon_step hl.andors, sub_step hl.list, grp_step hl.list⟩
    have hmem : formOf (tx s.ts) = none ∨ formOf (tx s.ts) = some .sub ∨ formOf (tx s.ts) = some .grp := by
      obtain ⟨p, hp⟩ := h
      exact hx _ (List.mem_of_getElem? hp.tok)
    obtain ⟨R, hR⟩ : ∃ R, commandP (n + 1) s = R := ⟨_, rfl⟩
    rw [hR] at hne ⊢
    rcases hmem with hf | hf | hf
    · refine command_simple w s h R hR hf (fun w' h' => simple_step (n := n) (by omega) hxl w' s h' R ?_ hne) hne
      rw [← hR, commandP, hf]
    · exact command_form (by omega) .sub hl.sub w s h R hR hf hne
    · exact command_form (by omega) .grp hl.grp w s h R hR hf hne
end Go.Proofs.YtcemlhfodpelaaaGreatDoor
