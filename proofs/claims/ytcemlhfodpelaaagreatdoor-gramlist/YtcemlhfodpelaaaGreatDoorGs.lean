/- The parser's small methods. -/
import Derived.Test.YtcemlhfodpelaaaGreatDoorGm
import Derived.Deep.LoopGhost
namespace Go.Proofs.YtcemlhfodpelaaaGreatDoor
open Go.RowKit

/-- the parser gave up -/
def Gv (x : Cx) (w : World) (n : Nat) (e : Ending) (w' : World) : Prop :=
  Gr x w w' ∧ ∃ b p, e = .panicked [{ v := .iface 107 (.pointer (some ⟨b, 0, none⟩)), recovered := false }] ∧ w'.heap[b]? = some (.cells #[p, .iface 29 (.int .i64 n)] 109 (0, 0))
set_option maxHeartbeats 1000000 in
theorem text_any {w : World} {x : Cx} {s : PS} (h : PsAt w x s) : Calls Tryz.prog 82 #[ptr x.A] w fun e w' => e = .returned (.string (mk (tx s.ts))) ∧ ∃ n, w' = w.drewN n := by
  obtain ⟨p, h⟩ := h
  obtain ⟨a0, a1, _, _, _⟩ := h.fields
  obtain ⟨_, c1⟩ := psp_cells h
  have hp := h.lt
  have hp' : (p : Int) < x.tk.length := by omega
  obtain ⟨A, M, g, cap, tk⟩ := x
  dsimp only at *
  clear h
  go_enter Tryz.func82, Tryz.ntmps82
  go_wp2
  go_quiet (fail)
  go_wp2
  go_ret
  exact ⟨rfl, _, rfl⟩
set_option maxHeartbeats 1000000 in
theorem atWord_any {w : World} {x : Cx} {s : PS} (h : PsAt w x s) : Calls Tryz.prog 58 #[ptr x.A] w fun e w' => e = .returned (.bool (decide (kd s.ts = 1))) ∧ ∃ n, w' = w.drewN n := by
  obtain ⟨p, h⟩ := h
  obtain ⟨a0, a1, _, _, _⟩ := h.fields
  obtain ⟨c0, _⟩ := psp_cells h
  have hp := h.lt
  have hp' : (p : Int) < x.tk.length := by omega
  obtain ⟨A, M, g, cap, tk⟩ := x
  dsimp only at *
  clear h
  obtain ⟨k, hk⟩ : ∃ k, k = kd s.ts := ⟨_, rfl⟩
  rw [← hk] at c0 ⊢
  clear hk
  by_cases e1 : k = 1
  · subst e1
    go_enter Tryz.func58, Tryz.ntmps58
    go_wp2
    go_quiet (fail)
    go_wp2
    go_ret
    exact ⟨rfl, _, rfl⟩
  · have e2 : ((k : Int) == 1) = false := beq_eq_false_iff_ne.2 (by omega)
    have e3 : decide (k = 1) = false := decide_eq_false e1
    have e4 : ¬ (k : Int) = 1 := by omega
    rw [e3]
    clear e3 e1
    go_enter Tryz.func58, Tryz.ntmps58
    go_wp2
    go_quiet (fail)
    go_wp2
    go_ret
    exact ⟨rfl, _, rfl⟩
theorem PsAt.drewN {w : World} {x : Cx} {s : PS} (h : PsAt w x s) (n : Nat) : PsAt (w.drewN n) x s := h.below (below_drewn n)
set_option maxHeartbeats 1000000 in
theorem pass_yes {w : World} {x : Cx} {s : PS} (h : PsAt w x s) (t : Bs) (ht : t ≠ []) (he : tx s.ts = t) : Calls Tryz.prog 54 #[ptr x.A, .string (mk t)] w fun e w' => e = .returned (.bool true) ∧ PsAt w' x s.nx ∧ Gr x w w' := by
  have q := text_any h
  have hx : ∀ n, ∃ p : Nat, (w.drewN n).cell? ⟨x.A, 1, none⟩ = some (.int .i64 p) ∧ (w.drewN n).frozen? ⟨x.A, 1, none⟩ = false ∧ p ≤ 5000 ∧ PsAt ((w.drewN n).setCell ⟨x.A, 1, none⟩ (.int .i64 ((p + 1 : Nat) : Int))) x s.nx ∧ Gr x w ((w.drewN n).setCell ⟨x.A, 1, none⟩ (.int .i64 ((p + 1 : Nat) : Int))) := fun n => by
    obtain ⟨p, h1⟩ := h.drewN n
    have h2 := h1.nx (by rw [he]; exact ht)
    refine ⟨p, h1.fields.2.1, h1.fz 1, ?_, ⟨_, h2.1⟩, (Gr.drewN x w n).trans h2.2⟩
    have := h1.lt; have := h1.len; omega
  rw [he] at q
  clear h he
  obtain ⟨A, M, g, cap, tk⟩ := x
  dsimp only at *
  go_enter Tryz.func54, Tryz.ntmps54
  go_wp2_with fail
  refine q.mono ?_
  rintro e w1 ⟨rfl, n, rfl⟩
  obtain ⟨p, a1, f1, hp, hP, hG⟩ := hx n
  have HP := hide' (And.intro hP hG)
  have hw : IntKind.i64.wrap ((p : Int) + 1) = ((p + 1 : Nat) : Int) := by rw [IntKind.wrap_i64]; omega
  clear hx q hP hG
  dsimp only
  go_wp2
  go_ret
  exact ⟨rfl, HP.out⟩
set_option maxHeartbeats 1000000 in
theorem pass_no {w : World} {x : Cx} {s : PS} (h : PsAt w x s) (t : Bs) (he : tx s.ts ≠ t) : Calls Tryz.prog 54 #[ptr x.A, .string (mk t)] w fun e w' => e = .returned (.bool false) ∧ ∃ n, w' = w.drewN n := by
  have q := text_any h
  have h2 : (tx s.ts == t) = false := beq_eq_false_iff_ne.2 he
  clear h
  generalize tx s.ts = u at *
  go_enter Tryz.func54, Tryz.ntmps54
  go_wp2_with fail
  refine q.mono ?_
  rintro e w1 ⟨rfl, n, rfl⟩
  clear q
  dsimp only
  go_wp2
  go_ret
  exact ⟨rfl, _, rfl⟩
theorem skip_yes {t : Tok} {r : List Tok} (h : t.2 = [10]) : skipL (t :: r) = skipL r := by rw [skipL, if_pos h]
theorem skip_no {l : List Tok} (h : tx l ≠ [10]) : skipL l = l := by
  cases l with
  | nil => rfl
  | cons t r => rw [skipL, if_neg (show ¬ t.2 = [10] from h)]
set_option maxHeartbeats 1000000 in
theorem skip_any {w : World} {x : Cx} {s : PS} (h : PsAt w x s) : Calls Tryz.prog 57 #[ptr x.A] w fun e w' => e = .returned (.tuple #[]) ∧ PsAt w' x s.sk ∧ Gr x w w' := by
  have HH := hide' h
  clear h
  go_enter Tryz.func57, Tryz.ntmps57
  go_wp2_with fail
  go_loopg [] s.ts.length (fun gk wr => ∃ ts', ts'.length ≤ gk ∧ PsAt wr x ⟨ts', s.dp, s.dm⟩ ∧ skipL ts' = skipL s.ts ∧ Gr x w wr)
  case atStart => exact ⟨s.ts, Nat.le_refl _, HH.out, rfl, Gr.refl _ _⟩
  obtain ⟨ts', hl, hP, hs, hG⟩ := hrel
  by_cases ht : tx ts' = [10]
  · have q := pass_yes hP [10] (by simp) ht
    cases gk with
    | zero => exact absurd (List.length_eq_zero_iff.1 (Nat.le_zero.1 hl)) hP.good.ne
    | succ gk' =>
    have HK := hide' (And.intro hl (And.intro hs hG))
    clear hl hs hG hP
    go_wp2_with fail
    refine q.mono ?_
    rintro e w1 ⟨rfl, hP, hG1⟩
    clear q
    dsimp only
    obtain ⟨hl, hs, hG⟩ := HK.out
    have hn : ts'.tail.length ≤ gk' ∧ skipL ts'.tail = skipL s.ts := by
      cases ts' with
      | nil => cases ht
      | cons t r => exact ⟨by simpa using hl, by rw [← hs, skip_yes ht]; rfl⟩
    have HJ := hide' (And.intro hP (And.intro (hG.trans hG1) hn))
    clear hl hs hG hP hG1 hn
    go_wp2_with fail
    go_roundg gk'
    case rel => exact ⟨ts'.tail, HJ.out.2.2.1, HJ.out.1, HJ.out.2.2.2, HJ.out.2.1⟩
    case measure => omega
  · have q := pass_no hP [10] ht
    have HK := hide' (And.intro hP (And.intro hs hG))
    clear hl hs hG hP
    go_wp2_with fail
    refine q.mono ?_
    rintro e w1 ⟨rfl, n, rfl⟩
    clear q
    dsimp only
    obtain ⟨hP, hs, hG⟩ := HK.out
    rw [skip_no ht] at hs
    subst hs
    have HJ := hide' (And.intro (hP.drewN n) (hG.trans (Gr.drewN x _ n)))
    clear hP hG HK
    go_wp2
    go_end0
    exact ⟨rfl, HJ.out⟩
set_option maxHeartbeats 1000000 in
theorem giveUp_any {w : World} {x : Cx} {s : PS} (h : PsAt w x s) (n : Nat) : Calls Tryz.prog 39 #[ptr x.A, .int .i64 n] w fun e w' => Gv x w n e w' := by
  obtain ⟨p, h⟩ := h
  obtain ⟨_, a1, _, _, _⟩ := h.fields
  have hb : Below w.heap.size w (w.alloc (.cells #[.int .i64 p, .iface 29 (.int .i64 n)] 109)) := (Below.refl _ _).alloc (Nat.le_refl _) _
  obtain ⟨A, M, g, cap, tk⟩ := x
  dsimp only at *
  clear h
  go_enter Tryz.func39, Tryz.ntmps39
  go_wp2
  refine ⟨rfl, Gr.of_below hb, w.heap.size, .int .i64 p, rfl, heap_alloc_new w _⟩
set_option maxHeartbeats 1000000 in
theorem want_yes {w : World} {x : Cx} {s : PS} (h : PsAt w x s) (t : Bs) (ht : t ≠ []) (he : tx s.ts = t) : Calls Tryz.prog 38 #[ptr x.A, .string (mk t)] w fun e w' => e = .returned (.tuple #[]) ∧ PsAt w' x s.nx ∧ Gr x w w' := by
  have q := pass_yes h t ht he
  clear h he
  go_enter Tryz.func38, Tryz.ntmps38
  go_wp2_with fail
  refine q.mono ?_
  rintro e w1 ⟨rfl, hP, hG⟩
  have HJ := hide' (And.intro hP hG)
  clear q hP hG
  dsimp only
  go_wp2
  go_end0
  exact ⟨rfl, HJ.out⟩
set_option maxHeartbeats 1000000 in
theorem want_no {w : World} {x : Cx} {s : PS} (h : PsAt w x s) (t : Bs) (he : tx s.ts ≠ t) : Calls Tryz.prog 38 #[ptr x.A, .string (mk t)] w fun e w' => Gv x w 31 e w' := by
  have q := pass_no h t he
  have q2 := fun n => giveUp_any (h.drewN n) 31
  clear h he
  go_enter Tryz.func38, Tryz.ntmps38
  go_wp2_with fail
  refine q.mono ?_
  rintro e w1 ⟨rfl, n, rfl⟩
  clear q
  dsimp only
  go_wp2_with fail
  refine (q2 n).mono ?_
  rintro e w2 ⟨hG, b, p, rfl, hb⟩
  exact ⟨rfl, (Gr.drewN x w n).trans hG, b, p, rfl, hb⟩
end Go.Proofs.YtcemlhfodpelaaaGreatDoor
