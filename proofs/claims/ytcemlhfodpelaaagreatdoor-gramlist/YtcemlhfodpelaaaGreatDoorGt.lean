/- More of the parser's small methods. -/
import Derived.Test.YtcemlhfodpelaaaGreatDoorGs
namespace Go.Proofs.YtcemlhfodpelaaaGreatDoor
open Go.RowKit

/-- what a step on needs and gives -/
theorem nx_facts {w : World} {x : Cx} {s : PS} (h : PsAt w x s) (ht : tx s.ts ≠ []) : ∃ p : Nat, w.cell? ⟨x.A, 1, none⟩ = some (.int .i64 p) ∧ w.frozen? ⟨x.A, 1, none⟩ = false ∧ IntKind.i64.wrap ((p : Int) + 1) = ((p + 1 : Nat) : Int) ∧ PsAt (w.setCell ⟨x.A, 1, none⟩ (.int .i64 ((p + 1 : Nat) : Int))) x s.nx ∧ Gr x w (w.setCell ⟨x.A, 1, none⟩ (.int .i64 ((p + 1 : Nat) : Int))) := by
  obtain ⟨p, h1⟩ := h
  have h2 := h1.nx ht
  refine ⟨p, h1.fields.2.1, h1.fz 1, ?_, ⟨_, h2.1⟩, h2.2⟩
  have := h1.lt
  have := h1.len
  rw [IntKind.wrap_i64]
  omega
set_option maxHeartbeats 1000000 in
theorem word_yes {w : World} {x : Cx} {s : PS} (h : PsAt w x s) (he : kd s.ts = 1) : Calls Tryz.prog 59 #[ptr x.A] w fun e w' => e = .returned (.string (mk (tx s.ts))) ∧ PsAt w' x s.nx ∧ Gr x w w' := by
  have q := atWord_any h
  rw [decide_eq_true he] at q
  have HH := hide' (And.intro h (h.good.word he))
  clear h he
  go_enter Tryz.func59, Tryz.ntmps59
  go_wp2_with fail
  refine q.mono ?_
  rintro e w1 ⟨rfl, n, hw1⟩
  clear q
  have h1 : PsAt w1 x s := by rw [hw1]; exact HH.out.1.drewN n
  have g1 : Gr x w w1 := by rw [hw1]; exact Gr.drewN x w n
  have q2 := text_any h1
  have HK := hide' (And.intro h1 g1)
  clear hw1 h1 g1
  dsimp only
  go_wp2_with fail
  refine q2.mono ?_
  rintro e w2 ⟨rfl, m, hw2⟩
  clear q2
  have h2 : PsAt w2 x s := by rw [hw2]; exact HK.out.1.drewN m
  have g2 : Gr x w w2 := by rw [hw2]; exact HK.out.2.trans (Gr.drewN x _ m)
  obtain ⟨p, a1, f1, hw, hP, hG⟩ := nx_facts h2 HH.out.2
  have HP := hide' (And.intro hP (g2.trans hG))
  clear hw2 h2 g2 hP hG HK HH
  obtain ⟨A, M, g, cap, tk⟩ := x
  dsimp only at *
  go_wp2
  go_ret
  exact ⟨rfl, HP.out⟩
set_option maxHeartbeats 1000000 in
theorem word_no {w : World} {x : Cx} {s : PS} (h : PsAt w x s) (he : kd s.ts ≠ 1) : Calls Tryz.prog 59 #[ptr x.A] w fun e w' => Gv x w 31 e w' := by
  have q := atWord_any h
  rw [decide_eq_false he] at q
  have q2 := fun n => giveUp_any (h.drewN n) 31
  clear h he
  go_enter Tryz.func59, Tryz.ntmps59
  go_wp2_with fail
  refine q.mono ?_
  rintro e w1 ⟨rfl, n, rfl⟩
  clear q
  dsimp only
  go_wp2_with fail
  refine (q2 n).mono ?_
  rintro e w2 ⟨hG, b, p, rfl, hb⟩
  exact ⟨rfl, (Gr.drewN x w n).trans hG, b, p, rfl, hb⟩
set_option maxHeartbeats 2000000 in
theorem ends_any {w : World} {x : Cx} {s : PS} (h : PsAt w x s) : Calls Tryz.prog 62 #[ptr x.A] w fun e w' => e = .returned (.bool (endsB (tx s.ts))) ∧ ∃ n, w' = w.drewN n := by
  have q := text_any h
  clear h
  generalize tx s.ts = u at *
  go_enter Tryz.func62, Tryz.ntmps62
  go_wp2_with fail
  refine q.mono ?_
  rintro e w1 ⟨rfl, n, rfl⟩
  clear q
  dsimp only
  go_wp2
  all_goals (go_ret; refine ⟨?_, _, rfl⟩; simp_all [endsB])
set_option maxHeartbeats 2000000 in
theorem atRedir_any {w : World} {x : Cx} {s : PS} (h : PsAt w x s) : Calls Tryz.prog 140 #[ptr x.A] w fun e w' => e = .returned (.bool (redB (tx s.ts))) ∧ ∃ n, w' = w.drewN n := by
  have q := text_any h
  clear h
  generalize tx s.ts = u at *
  go_enter Tryz.func140, Tryz.ntmps140
  go_wp2_with fail
  refine q.mono ?_
  rintro e w1 ⟨rfl, n, rfl⟩
  clear q
  dsimp only
  go_wp2
  all_goals (go_ret; refine ⟨?_, _, rfl⟩; simp_all [redB])
set_option maxHeartbeats 2000000 in
theorem redir_yes {w : World} {x : Cx} {s : PS} (h : PsAt w x s) (ht : tx s.ts ≠ []) (he : kd s.ts.tail = 1) : Calls Tryz.prog 141 #[ptr x.A] w fun e w' => e = .returned (.agg #[.string (mk (tx s.ts)), .string (mk (tx s.ts.tail))]) ∧ PsAt w' x s.nx.nx ∧ Gr x w w' := by
  have hb0 : Below w.heap.size w (w.alloc (.cells #[.string ⟨#[]⟩, .string ⟨#[]⟩] 65)) := (Below.refl _ _).alloc (Nat.le_refl _) _
  obtain ⟨W, hW⟩ : ∃ W, W = w.alloc (.cells #[.string ⟨#[]⟩, .string ⟨#[]⟩] 65) := ⟨_, rfl⟩
  have hz : W.heap[w.heap.size]? = some (.cells #[.string ⟨#[]⟩, .string ⟨#[]⟩] 65 (0, 0)) := by rw [hW]; exact heap_alloc_new w _
  rw [← hW] at hb0
  have h0 := h.below hb0
  have g0 : Gr x w W := Gr.of_below hb0
  have q := text_any h0
  have HH := hide' (And.intro h0 (And.intro g0 (And.intro hz (And.intro ht (And.intro he h.lt)))))
  have HW := hide' hW
  clear h hb0 hz h0 g0 ht he hW
  go_enter Tryz.func141, Tryz.ntmps141
  go_wp2_with fail
  rw [← HW.out]
  refine q.mono ?_
  rintro e w1 ⟨rfl, n, hw1⟩
  clear q
  have h1 : PsAt w1 x s := by rw [hw1]; exact HH.out.1.drewN n
  have g1 : Gr x w w1 := by rw [hw1]; exact HH.out.2.1.trans (Gr.drewN x _ n)
  have z1 : w1.heap[w.heap.size]? = some (.cells #[.string ⟨#[]⟩, .string ⟨#[]⟩] 65 (0, 0)) := by rw [hw1]; exact HH.out.2.2.1
  obtain ⟨p, a1, f1, hw, hP, hG⟩ := nx_facts h1 HH.out.2.2.2.1
  have q2 := word_yes hP HH.out.2.2.2.2.1
  have HP := hide' (And.intro hP (And.intro (g1.trans hG) (And.intro z1 (And.intro hG h1))))
  clear hw1 h1 g1 hP hG z1
  dsimp only
  obtain ⟨A, M, g, cap, tk⟩ := x
  dsimp only at *
  go_wp2_with fail
  refine q2.mono ?_
  rintro e w2 ⟨rfl, hP2, hG2⟩
  clear q2
  obtain ⟨_, g1, z1, hG, h1⟩ := HP.out
  have hne : w.heap.size ≠ A := by have := HH.out.2.2.2.2.2; omega
  have z2 : w2.heap[w.heap.size]? = some (.cells #[.string ⟨#[]⟩, .string ⟨#[]⟩] 65 (0, 0)) := ((hG.trans hG2).block _ (lt_of_block z1) (by simpa using hne)).trans z1
  have b0 : w2.cell? ⟨w.heap.size, 0, none⟩ = some (.string ⟨#[]⟩) := by rw [Lib.cell_of_heap z2]; rfl
  have b1 : w2.cell? ⟨w.heap.size, 1, none⟩ = some (.string ⟨#[]⟩) := by rw [Lib.cell_of_heap z2]; rfl
  have f0 := Lib.frozen_of_heap z2 0
  have f1' := Lib.frozen_of_heap z2 1
  have HJ := hide' (And.intro hP2 (And.intro (g1.trans hG2) z2))
  clear hP2 hG2 g1 z1 hG h1 HP HH z2
  dsimp only
  go_wp2
  obtain ⟨W2, hW2⟩ : ∃ W2, W2 = (w2.setCell ⟨w.heap.size, 0, none⟩ (.string (mk (tx s.ts)))).setCell ⟨w.heap.size, 1, none⟩ (.string (mk (tx s.ts.tail))) := ⟨_, rfl⟩
  rw [← hW2]
  obtain ⟨hP2, hG2, z2⟩ := HJ.out
  have z3 : W2.heap[w.heap.size]? = some (.cells #[.string (mk (tx s.ts)), .string (mk (tx s.ts.tail))] 65 (0, 0)) := by rw [hW2]; exact set_block (set_block z2 0 _) 1 _
  have g3 : w2.grownBy W2 (some w.heap.size) := by rw [hW2]; exact ⟨rfl, rfl, rfl, by simp, fun k _ hn => (Below.heap_setCell _ _ _ _ (fun e => hn (by rw [e]))).trans (Below.heap_setCell _ _ _ _ (fun e => hn (by rw [e])))⟩
  have d0 : W2.cell? ⟨w.heap.size, 0, none⟩ = some (.string (mk (tx s.ts))) := by rw [Lib.cell_of_heap z3]; rfl
  have d1 : W2.cell? ⟨w.heap.size, 1, none⟩ = some (.string (mk (tx s.ts.tail))) := by rw [Lib.cell_of_heap z3]; rfl
  refine bodyPost_ret (v := .agg #[.string (mk (tx s.ts)), .string (mk (tx s.ts.tail))]) (by simp [results, Tryz.results141, go_sem, d0, d1]) rfl ?_
  exact ⟨rfl, hP2.grown g3 fun b hb => by cases hb; exact ⟨_, _, z2, by decide, by decide, by decide⟩, hG2.grown g3 fun b hb => by cases hb; exact Nat.le_refl _⟩
end Go.Proofs.YtcemlhfodpelaaaGreatDoor
