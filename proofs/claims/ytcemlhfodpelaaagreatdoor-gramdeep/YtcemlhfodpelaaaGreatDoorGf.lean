/- The map of the forms. -/
import Derived.Test.YtcemlhfodpelaaaGreatDoorZk
import Derived.Test.YtcemlhfodpelaaaGreatDoorZq
namespace Go.Proofs.YtcemlhfodpelaaaGreatDoor
open Go.RowKit

def formW (A : Nat) (t : Bs) : Value := match formOf t with
  | some f => formV A (fmN f)
  | none => .nilFunc
theorem zero53 (w : World) : (zeroValue 53).run Tryz.prog w = .ok .nilFunc w := by
  first | kernel_rfl | rfl
theorem find_no (k : ByteArray) (es : List MapEntry) : ∀ i, (∀ e ∈ es, ∃ s, e.key = .string s ∧ (k == s) = false) → Instr.findNow .string (.string k) es i = some none := by
  induction es with
  | nil => intro i _; rfl
  | cons e r ih =>
    intro i h
    obtain ⟨s, h1, h2⟩ := h e (by simp)
    unfold Instr.findNow
    rw [h1]
    simp only [Instr.sameNow, h2]
    exact ih (i + 1) fun e' he' => h e' (by simp [he'])
theorem find_forms (A : Nat) (t : Bs) : Instr.findNow .string (.string (mk t)) (formsA A).toList 0 = some ((formOf t).map fun f => ((fmN f - 30), formV A (fmN f))) := by
  by_cases h1 : t = [40]
  · subst h1; rfl
  by_cases h2 : t = [123]
  · subst h2; rfl
  by_cases h3 : t = [105, 102]
  · subst h3; rfl
  by_cases h4 : t = [119, 104, 105, 108, 101]
  · subst h4; rfl
  by_cases h5 : t = [117, 110, 116, 105, 108]
  · subst h5; rfl
  by_cases h6 : t = [102, 111, 114]
  · subst h6; rfl
  by_cases h7 : t = [99, 97, 115, 101]
  · subst h7; rfl
  have hf : formOf t = none := by unfold formOf; simp [h1, h2, h3, h4, h5, h6, h7]
  rw [hf]
  refine find_no _ _ _ fun e he => ?_
  have hne : ∀ (l : Bs), ¬ t = l → (mk t == ⟨l.toArray⟩) = false := fun l hl => by
    show (t.toArray == l.toArray) = false
    simp [hl]
  simp only [formsA, List.mem_cons, List.not_mem_nil, or_false] at he
  rcases he with rfl | rfl | rfl | rfl | rfl | rfl | rfl
  · exact ⟨_, rfl, hne [40] h1⟩
  · exact ⟨_, rfl, hne [123] h2⟩
  · exact ⟨_, rfl, hne [105, 102] h3⟩
  · exact ⟨_, rfl, hne [119, 104, 105, 108, 101] h4⟩
  · exact ⟨_, rfl, hne [117, 110, 116, 105, 108] h5⟩
  · exact ⟨_, rfl, hne [102, 111, 114] h6⟩
  · exact ⟨_, rfl, hne [99, 97, 115, 101] h7⟩
theorem look_forms {w : World} {A M : Nat} (h : w.heap[M]? = some (.map (formsA A) 7)) (t : Bs) : (Instr.lookup 71 (.map (some M)) (.string (mk t)) true).run Tryz.prog w = .ok (.tuple #[formW A t, .bool (formOf t).isSome]) w := by
  have hg : (getObj M).run Tryz.prog w = .ok (.map (formsA A) 7) w := by
    simp [getObj, Sem.run, h]
  have hff := find_forms A t
  unfold Instr.lookup
  simp only [Sem.run_bind, run_underlying Tryz.underlying71, Result.andThen_ok, hg, Sem.run_pure]
  have hck : (Instr.checkKey (formsA A).isEmpty 10000 9 (.string (mk t))).run Tryz.prog w = .ok () w := by
    unfold Instr.checkKey
    simp [Sem.run_bind, run_underlying Tryz.underlying9]
  rw [hck]
  simp only [Result.andThen_ok]
  have hfk : (Instr.findKey 9 (.string (mk t)) (formsA A).toList).run Tryz.prog w = .ok ((formOf t).map fun f => ((fmN f - 30), formV A (fmN f))) w := by
    unfold Instr.findKey
    simp [Sem.run_bind, run_underlying Tryz.underlying9, hff]
  rw [hfk]
  unfold formW
  cases formOf t with
  | none => simp
  | some f => simp
end Go.Proofs.YtcemlhfodpelaaaGreatDoor
