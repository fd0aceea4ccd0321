/- The deferred closure of gram.Parse. -/
import Derived.Test.YtbljbhlndjhhdaaGreatDoorGsc
namespace Go.Proofs.YtbljbhlndjhhdaaGreatDoor
open Go.RowKit

theorem pasrt_nil (w : World) : (Instr.typeAssert .nilIface 20 48 true).run Tryz.prog w = .ok (.tuple #[.nilIface, .bool false]) w := by kernel_rfl
theorem pasrt_err (a : Addr) (w : World) : (Instr.typeAssert (.iface 107 (.pointer (some a))) 20 48 true).run Tryz.prog w = .ok (.tuple #[.iface 107 (.pointer (some a)), .bool true]) w := by kernel_rfl
set_option maxHeartbeats 1000000 in
theorem pcatch_idle (p q : Addr) (w : World) :
    CallsD Tryz.prog 16 #[.pointer (some p), .pointer (some q)] .returning w fun e u' w' => e = .returned (.tuple #[]) ∧ u' = .returning ∧ w' = w := by
  refine callsD_of_wpS Tryz.func16 rfl fun c₀ cs hu => ?_
  have ha := pasrt_nil
  apply wpS_seq
  apply wpS_region
  simp [wpOpsS, go_sem, recoverD, hu, Tryz.ntmps16, Exit.thenS, ha]
  apply wpS_seq
  apply wpS_region
  simp [wpOpsS, go_sem, Exit.thenS, Array.replicate]
  refine wpS_cond (t := false) (by simp [Act.eval]) ?_
  simp only [Bool.false_eq_true, if_false]
  refine wpS_of_wp (wp_skip ?_)
  cases c₀
  simp_all [bodyPostS, results, Tryz.results16]
set_option maxHeartbeats 2000000 in
theorem pcatch_panicking (p q b : Nat) (u0 u1 u2 u3 u4 u5 u6 y pv : Value) (n : Int) (older : List PanicEntry) (w : World) (hE : EtW w) (hc : w.heap[p]? = some (.cells #[u0, u1, u2, u3, u4, u5, u6] 28 (0, 0))) (hd : w.heap[q]? = some (.cells #[y] 29 (0, 0))) (hb : w.heap[b]? = some (.cells #[pv, .iface 29 (.int .i64 n)] 109 (0, 0))) :
    CallsD Tryz.prog 16 #[.pointer (some ⟨p, 0, none⟩), .pointer (some ⟨q, 0, none⟩)] (.panicking ({ v := .iface 107 (.pointer (some ⟨b, 0, none⟩)), recovered := false } :: older)) w fun e u' w' =>
      e = .returned (.tuple #[]) ∧ u' = .panicking ({ v := .iface 107 (.pointer (some ⟨b, 0, none⟩)), recovered := true } :: older) ∧ w.heap.size ≤ w'.heap.size ∧ w'.os = w.os ∧ w'.tape = w.tape ∧ w'.output = w.output ∧ (∀ k, k < w.heap.size → k ≠ p → k ≠ q → w'.heap[k]? = w.heap[k]?) ∧ w'.heap[p]? = some (.cells zeroC 28 (0, 0)) ∧ w'.heap[q]? = some (.cells #[.int .i64 n] 29 (0, 0)) := by
  refine callsD_of_wpS Tryz.func16 rfl fun c₀ cs hu => ?_
  have ha := pasrt_err ⟨b, 0, none⟩
  have hpq : q ≠ p := fun e => by rw [e, hc] at hd; simp at hd
  have qn := number_any b n w hE (by rw [Lib.cell_of_heap hb]; rfl)
  apply wpS_seq
  apply wpS_region
  simp [wpOpsS, go_sem, recoverD, hu, Tryz.ntmps16, Exit.thenS, ha]
  apply wpS_seq
  apply wpS_region
  simp [wpOpsS, go_sem, Exit.thenS, Array.replicate]
  refine wpS_cond (t := true) (by simp [Act.eval]) ?_
  simp only [if_true]
  refine wpS_of_wp ?_
  have HH := hide' (And.intro hc (And.intro hd hpq))
  clear hc hd hb hE ha hpq
  go_wp2_with fail
  refine qn.mono ?_
  rintro r w1 ⟨rfl, hb1⟩
  clear qn
  obtain ⟨hc, hd, hpq⟩ := HH.out
  have hc1 := (hb1.block p (lt_of_block hc)).trans hc
  have hd1 := (hb1.block q (lt_of_block hd)).trans hd
  have hg2 := set7_grown w1 p (.int .i64 0) (.bool false) (.slice none 0 0) (.slice none 0 0) (.slice none 0 0) (.slice none 0 0) (.slice none 0 0)
  have hc2 := set7_blk hc1 (.int .i64 0) (.bool false) (.slice none 0 0) (.slice none 0 0) (.slice none 0 0) (.slice none 0 0) (.slice none 0 0)
  obtain ⟨w2, hw2⟩ : ∃ w2, w2 = set7 w1 p (.int .i64 0) (.bool false) (.slice none 0 0) (.slice none 0 0) (.slice none 0 0) (.slice none 0 0) (.slice none 0 0) := ⟨_, rfl⟩
  rw [← hw2] at hg2 hc2
  have hd2 := (hg2.block q (lt_of_block hd1) (fun e => hpq (Option.some.inj e))).trans hd1
  have hd3 := set_block hd2 0 (.int .i64 n)
  have hc3 : (w2.setCell ⟨q, 0, none⟩ (.int .i64 n)).heap[p]? = _ := (set_oth (fun e => hpq e.symm)).trans hc2
  have hk : ∀ k, k < w.heap.size → ¬ k = p → ¬ k = q → (w2.setCell ⟨q, 0, none⟩ (.int .i64 n)).heap[k]? = w.heap[k]? := fun k h1 h2 h3 => (set_oth h3).trans ((hg2.block k (Nat.lt_of_lt_of_le h1 hb1.size) (fun e => h2 (Option.some.inj e))).trans (hb1.block k h1))
  obtain ⟨r0, r1, r2, r3, r4, r5, r6⟩ := cells7 hc1
  obtain ⟨f0, f1, f2, f3, f4, f5, f6⟩ := fz7 hc1
  have k0' : w2.cell? ⟨q, 0, none⟩ = some y := by rw [Lib.cell_of_heap hd2]; rfl
  have e0' := Lib.frozen_of_heap hd2 0
  have k0 : (((((((w1.setCell ⟨p, 0, none⟩ (.int .i64 0)).setCell ⟨p, 1, none⟩ (.bool false)).setCell ⟨p, 2, none⟩ (.slice none 0 0)).setCell ⟨p, 3, none⟩ (.slice none 0 0)).setCell ⟨p, 4, none⟩ (.slice none 0 0)).setCell ⟨p, 5, none⟩ (.slice none 0 0)).setCell ⟨p, 6, none⟩ (.slice none 0 0)).cell? ⟨q, 0, none⟩ = some y := by rw [hw2] at k0'; exact k0'
  have e0 : (((((((w1.setCell ⟨p, 0, none⟩ (.int .i64 0)).setCell ⟨p, 1, none⟩ (.bool false)).setCell ⟨p, 2, none⟩ (.slice none 0 0)).setCell ⟨p, 3, none⟩ (.slice none 0 0)).setCell ⟨p, 4, none⟩ (.slice none 0 0)).setCell ⟨p, 5, none⟩ (.slice none 0 0)).setCell ⟨p, 6, none⟩ (.slice none 0 0)).frozen? ⟨q, 0, none⟩ = false := by rw [hw2] at e0'; exact e0'
  have HW2 := hide' hw2
  have HE := hide' (show w.heap.size ≤ (w2.setCell ⟨q, 0, none⟩ (.int .i64 n)).heap.size ∧ (w2.setCell ⟨q, 0, none⟩ (.int .i64 n)).os = w.os ∧ (w2.setCell ⟨q, 0, none⟩ (.int .i64 n)).tape = w.tape ∧ (w2.setCell ⟨q, 0, none⟩ (.int .i64 n)).output = w.output ∧ (∀ k, k < w.heap.size → ¬ k = p → ¬ k = q → (w2.setCell ⟨q, 0, none⟩ (.int .i64 n)).heap[k]? = w.heap[k]?) ∧ (w2.setCell ⟨q, 0, none⟩ (.int .i64 n)).heap[p]? = some (.cells zeroC 28 (0, 0)) ∧ (w2.setCell ⟨q, 0, none⟩ (.int .i64 n)).heap[q]? = some (.cells #[.int .i64 n] 29 (0, 0)) from
    ⟨Nat.le_trans hb1.size (Nat.le_trans hg2.size (Nat.le_of_eq (by simp))), hg2.os.trans hb1.os, hg2.tape.trans hb1.tape, hg2.output.trans hb1.output, hk, hc3, hd3⟩)
  clear hc hd hc1 hd1 hg2 hc2 hw2 hd2 hd3 hc3 hk hb1 HH k0' e0' hpq
  dsimp only
  go_wp2
  have hE2 := HE.out
  rw [HW2.out] at hE2
  generalize hX : (((((((w1.setCell ⟨p, 0, none⟩ (.int .i64 0)).setCell ⟨p, 1, none⟩ (.bool false)).setCell ⟨p, 2, none⟩ (.slice none 0 0)).setCell ⟨p, 3, none⟩ (.slice none 0 0)).setCell ⟨p, 4, none⟩ (.slice none 0 0)).setCell ⟨p, 5, none⟩ (.slice none 0 0)).setCell ⟨p, 6, none⟩ (.slice none 0 0)).setCell ⟨q, 0, none⟩ (.int .i64 n) = X
  have hE3 : w.heap.size ≤ X.heap.size ∧ X.os = w.os ∧ X.tape = w.tape ∧ X.output = w.output ∧ (∀ k, k < w.heap.size → ¬ k = p → ¬ k = q → X.heap[k]? = w.heap[k]?) ∧ X.heap[p]? = some (.cells zeroC 28 (0, 0)) ∧ X.heap[q]? = some (.cells #[.int .i64 n] 29 (0, 0)) := by rw [← hX]; exact hE2
  clear hE2 hX HE HW2 k0 e0 r0 r1 r2 r3 r4 r5 r6 f0 f1 f2 f3 f4 f5 f6
  simp [bodyPostS, results, Tryz.results16]
  exact hE3
end Go.Proofs.YtbljbhlndjhhdaaGreatDoor
