/- command. -/
import Derived.Test.YtcemlhfodpelaaaGreatDoorGf
import Derived.Test.YtcemlhfodpelaaaGreatDoorZx
namespace Go.Proofs.YtcemlhfodpelaaaGreatDoor
open Go.RowKit

set_option maxRecDepth 100000 in
set_option maxHeartbeats 4000000 in
theorem command_simple {x : Cx} {n : Nat} (w : World) (s : PS) (h : PsAt w x s) (R : PR Cd) (hR : commandP (n + 1) s = R) (hf : formOf (tx s.ts) = none) (qS : ∀ w, PsAt w x s → Calls Tryz.prog 139 #[ptr x.A] w (PrR x w R (CmdV w.heap.size))) (hne : R ≠ .out) : Calls Tryz.prog 126 #[ptr x.A] w (PrR x w R (CmdV w.heap.size)) := by
  have hAl := h.lt
  obtain ⟨W, hW, h0, g0, z0, s0⟩ := res_laid h
  have HW := hide' hW
  obtain ⟨p, hp0⟩ := h0
  have q : ∀ m, Calls Tryz.prog 82 #[ptr x.A] (W.drewN m) fun e w' => e = .returned (.string (mk (tx s.ts))) ∧ ∃ n, w' = (W.drewN m).drewN n := fun m => text_any ((show PsAt W x s from ⟨p, hp0⟩).drewN m)
  have a2 := hp0.fields.2.2.1
  have hl := fun m => look_forms (w := W.drewN m) hp0.mp (tx s.ts)
  have e1 : formW x.A (tx s.ts) = .nilFunc := by unfold formW; rw [hf]
  rw [hf] at hl
  simp only [e1] at hl
  have HH := hide' (And.intro (show PsAt W x s from ⟨p, hp0⟩) (And.intro g0 (And.intro z0 s0)))
  clear hW g0 z0 s0 h hp0 e1 hf
  generalize tx s.ts = tt at *
  go_enter Tryz.func126, Tryz.ntmps126
  go_upto_region 1 with fail
  rw [← HW.out]
  go_quiet ((go_at_call 82; exact quiet_of_drew (q _)))
  obtain ⟨w1, hw1⟩ : ∃ w1, w1 = W.drewN nq := ⟨_, rfl⟩
  rw [← hw1]
  obtain ⟨h0, g0, z0, s0⟩ := HH.out
  have h1 : PsAt w1 x s := by rw [hw1]; exact h0.drewN nq
  have g1 : Gr x w w1 := by rw [hw1]; exact g0.trans (Gr.drewN x _ nq)
  have z1 : w1.heap[w.heap.size]? = some (.cells zeroC 28 (0, 0)) := by rw [hw1]; exact z0
  have hs1 : w1.heap.size = w.heap.size + 1 := by rw [hw1]; exact s0
  have qq := qS w1 h1
  have HK := hide' (And.intro g1 z1)
  clear hw1 h0 g0 z0 h1 g1 z1 HH q hl a2
  go_wp2_with fail
  refine qq.mono ?_
  rintro e w2 hr
  clear qq
  obtain ⟨g1, z1⟩ := HK.out
  cases R with
  | out => exact absurd rfl hne
  | bad =>
    obtain ⟨g2, b, p, rfl, hb⟩ := hr
    exact ⟨rfl, g1.trans g2, b, p, rfl, hb⟩
  | ok c s1 =>
    obtain ⟨g2, h2, v, rfl, hv⟩ := hr
    obtain ⟨k, nt, a1, a2, a3, a4, a5, n1, n2, n3, n4, n5, c1, c2, c3, c4, c5, rfl, hc⟩ := hv.form
    have z2 := g2.blk (by omega) z1
    have HE := hide' (prr_end (g1.trans g2) h2 z2 (hc.mono fun g hg _ => by omega))
    obtain ⟨r0, r1, r2, r3, r4, r5, r6⟩ := cells7 z2
    obtain ⟨f0, f1, f2, f3, f4, f5, f6⟩ := fz7 z2
    clear g1 z1 g2 h2 z2 hc hv HK hne
    dsimp only
    go_wp2
    obtain ⟨hV, hbk⟩ := HE.out _ rfl
    obtain ⟨d0, d1, d2, d3, d4, d5, d6⟩ := cells7 hbk
    refine bodyPost_ret (v := .agg #[.int .i64 k, .bool nt, .slice a1 n1 c1, .slice a2 n2 c2, .slice a3 n3 c3, .slice a4 n4 c4, .slice a5 n5 c5]) (by simp [results, Tryz.results126, go_sem, d0, d1, d2, d3, d4, d5, d6]) rfl ?_
    exact hV
set_option maxRecDepth 100000 in
set_option maxHeartbeats 4000000 in
theorem command_form {x : Cx} {n : Nat} (hn : n ≤ 1000000) (f : Fm) (hF : ∀ w s, PsAt w x s → formP n f s ≠ .out → Calls Tryz.prog (fmN f) #[ptr x.A] w (PrR x w (formP n f s) (CmdV w.heap.size))) (w : World) (s : PS) (h : PsAt w x s) (R : PR Cd) (hR : commandP (n + 1) s = R) (hf : formOf (tx s.ts) = some f) (hne : R ≠ .out) : Calls Tryz.prog 126 #[ptr x.A] w (PrR x w R (CmdV w.heap.size)) := by
  have hAl := h.lt
  obtain ⟨W, hW, h0, g0, z0, s0⟩ := res_laid h
  have HW := hide' hW
  obtain ⟨p, hp0⟩ := h0
  have q : ∀ m, Calls Tryz.prog 82 #[ptr x.A] (W.drewN m) fun e w' => e = .returned (.string (mk (tx s.ts))) ∧ ∃ n, w' = (W.drewN m).drewN n := fun m => text_any ((show PsAt W x s from ⟨p, hp0⟩).drewN m)
  have a2 := hp0.fields.2.2.1
  have hl := fun m => look_forms (w := W.drewN m) hp0.mp (tx s.ts)
  have e1 : formW x.A (tx s.ts) = formV x.A (fmN f) := by unfold formW; rw [hf]
  rw [hf] at hl
  simp only [e1] at hl
  have hgd : Good s.ts.tail := hp0.good.tail fun e => by rw [e] at hf; simp [formOf] at hf
  have hcf : ∀ w, (callFunc (fmN f) #[ptr x.A]).run Tryz.prog w = .ok (.enter (fmN f) #[ptr x.A]) w := fun w => by cases f <;> kernel_rfl
  have HH := hide' (And.intro hp0 (And.intro g0 (And.intro z0 (And.intro s0 hgd))))
  clear hW g0 z0 s0 h hp0 e1
  rw [commandP, hf] at hR
  dsimp only at hR
  have HR := hide' hR
  clear hf hgd hR
  generalize tx s.ts = tt at *
  obtain ⟨fk, hfk⟩ : ∃ fk, fk = fmN f := ⟨_, rfl⟩
  rw [← hfk] at hl hF hcf
  have HCF := hide' hcf
  clear hfk hcf
  go_enter Tryz.func126, Tryz.ntmps126
  go_upto_region 1 with fail
  rw [← HW.out]
  go_quiet ((go_at_call 82; exact quiet_of_drew (q _)))
  obtain ⟨w1, hw1⟩ : ∃ w1, w1 = W.drewN nq := ⟨_, rfl⟩
  rw [← hw1]
  obtain ⟨hp0, g0, z0, s0, hgd⟩ := HH.out
  have h1 : PsP w1 x p s := by rw [hw1]; exact hp0.below (below_drewn nq)
  have g1 : Gr x w w1 := by rw [hw1]; exact g0.trans (Gr.drewN x _ nq)
  have z1 : w1.heap[w.heap.size]? = some (.cells zeroC 28 (0, 0)) := by rw [hw1]; exact z0
  have hs1 : w1.heap.size = w.heap.size + 1 := by rw [hw1]; exact s0
  have hpl := h1.lt
  have hlen := h1.len
  have hdp := h1.dpl
  have hdm := h1.dml
  obtain ⟨A, M, g, cap, tk⟩ := x
  dsimp only at hAl hpl hlen hdp
  obtain ⟨dp, hdpe⟩ : ∃ dp, dp = s.dp := ⟨_, rfl⟩
  obtain ⟨dm, hdme⟩ : ∃ dm, dm = s.dm := ⟨_, rfl⟩
  have b1 := h1.blk
  dsimp only at b1
  rw [← hdpe, ← hdme] at b1
  have b2 : (w1.setCell ⟨A, 3, none⟩ (.int .i64 ((dp : Int) + 1))).heap[A]? = some (.cells #[.slice (some ⟨g, 0, none⟩) tk.length cap, .int .i64 p, .map (some M), .int .i64 ((dp : Int) + 1), .int .i64 dm] 73 (0, 0)) := set_block b1 3 _
  obtain ⟨w2, hw2⟩ : ∃ w2, w2 = w1.setCell ⟨A, 3, none⟩ (.int .i64 ((dp : Int) + 1)) := ⟨_, rfl⟩
  rw [← hw2] at b2
  have k3 : w1.cell? ⟨A, 3, none⟩ = some (.int .i64 dp) := by rw [Lib.cell_of_heap b1]; rfl
  have f3 := Lib.frozen_of_heap b1 3
  have hwr : IntKind.i64.wrap ((dp : Int) + 1) = (dp : Int) + 1 := by rw [IntKind.wrap_i64]; omega
  have HP := hide' (And.intro h1 (And.intro g1 (And.intro z1 (And.intro hdpe hdme))))
  have HW2 := hide' hw2
  clear hp0 g0 z0 h1 g1 z1 HH q hl a2 hw1 b1 hdpe hdme hw2
  go_upto_region 5 with fail
  rw [← HW2.out]
  have m3 : w2.cell? ⟨A, 3, none⟩ = some (.int .i64 ((dp : Int) + 1)) := by rw [Lib.cell_of_heap b2]; rfl
  have m4 : w2.cell? ⟨A, 4, none⟩ = some (.int .i64 dm) := by rw [Lib.cell_of_heap b2]; rfl
  have f4 := Lib.frozen_of_heap b2 4
  clear k3 f3 hwr
  go_region
  obtain ⟨w3, hw3⟩ : ∃ w3, w3 = (w2.setCell ⟨A, 4, none⟩ (.int .i64 (max (dm : Int) ((dp : Int) + 1)))).drew := ⟨_, rfl⟩
  rw [← hw3]
  have b3 : w3.heap[A]? = some (.cells #[.slice (some ⟨g, 0, none⟩) tk.length cap, .int .i64 p, .map (some M), .int .i64 ((dp : Int) + 1), .int .i64 (max (dm : Int) ((dp : Int) + 1))] 73 (0, 0)) := by rw [hw3]; exact set_block b2 4 _
  obtain ⟨w4, hw4⟩ : ∃ w4, w4 = w3.setCell ⟨A, 1, none⟩ (.int .i64 ((p : Int) + 1)) := ⟨_, rfl⟩
  have b4 : w4.heap[A]? = some (.cells #[.slice (some ⟨g, 0, none⟩) tk.length cap, .int .i64 ((p : Int) + 1), .map (some M), .int .i64 ((dp : Int) + 1), .int .i64 (max (dm : Int) ((dp : Int) + 1))] 73 (0, 0)) := by rw [hw4]; exact set_block b3 1 _
  obtain ⟨h1, g1, z1, hdpe, hdme⟩ := HP.out
  have gg : w1.grownBy w4 (some A) := by
    have e1 : w1.grownBy w1 (some A) := ⟨rfl, rfl, rfl, Nat.le_refl _, fun _ _ _ => rfl⟩
    have e2 := grown_set e1 3 (.int .i64 ((dp : Int) + 1))
    rw [← HW2.out] at e2
    have e3 := grown_set e2 4 (.int .i64 (max (dm : Int) ((dp : Int) + 1)))
    have e4 : w1.grownBy w3 (some A) := by rw [hw3]; exact ⟨e3.os, e3.tape, e3.output, e3.size, e3.block⟩
    have e5 := grown_set e4 1 (.int .i64 ((p : Int) + 1))
    rw [← hw4] at e5
    exact e5
  have gx : Gr ⟨A, M, g, cap, tk⟩ w1 w4 := gg
  have hmx : (max (dm : Int) ((dp : Int) + 1)) = ((max dm (dp + 1) : Nat) : Int) := by omega
  have h4 : PsAt w4 ⟨A, M, g, cap, tk⟩ ⟨s.ts.tail, s.dp + 1, max s.dm (s.dp + 1)⟩ := by
    obtain ⟨cur, hg1, ht1⟩ := h1.row
    refine ⟨p + 1, ?_, (gg.block _ (lt_of_block h1.mp) fun e => h1.ne.1 (Option.some.inj e)).trans h1.mp, ⟨cur, (gg.block _ (lt_of_block hg1) fun e => h1.ne.2 (Option.some.inj e)).trans hg1, ht1⟩, ?_, hgd, hlen, Nat.succ_le_succ hdp, Nat.max_le.2 ⟨hdm, by omega⟩, ?_⟩
    · rw [b4, ← hdpe, ← hdme, hmx]
      rfl
    · show tk.drop (p + 1) = s.ts.tail
      have := h1.ts
      dsimp only at this
      rw [← this, List.tail_drop]
    · obtain ⟨cs, m, h7, h8⟩ := h1.glo
      exact ⟨cs, m, (gg.block 1 (lt_of_block h7) fun e => by
        have e1 : 1 = A := Option.some.inj e
        have h9 := h1.blk
        dsimp only at h9
        rw [← e1, h7] at h9
        simp at h9).trans h7, h8⟩
  have q := hF w4 _ h4 (fun e => hne (by rw [← HR.out, e]; rfl))
  have z4 := gx.blk (b := w.heap.size) (by dsimp only; omega) z1
  have hs4 : w1.heap.size ≤ w4.heap.size := gx.size
  have k1 : w3.cell? ⟨A, 1, none⟩ = some (.int .i64 p) := by rw [Lib.cell_of_heap b3]; rfl
  have f1 := Lib.frozen_of_heap b3 1
  have hwp : IntKind.i64.wrap ((p : Int) + 1) = (p : Int) + 1 := by rw [IntKind.wrap_i64]; omega
  have HQ := hide' (And.intro (g1.trans gx) z4)
  have HW4 := hide' hw4
  clear h1 g1 z1 gg gx h4 z4 b2 b3 b4 hw3 hw4 HP HW2 m3 m4 f4 hmx hgd hdpe hdme
  go_wp2_with fail
  rw [← HW4.out, HCF.out, Oper.upon_enter]
  refine q.mono ?_
  rintro e w5 hr
  clear q
  obtain ⟨gw4, z4⟩ := HQ.out
  cases hp : formP n f ⟨s.ts.tail, s.dp + 1, max s.dm (s.dp + 1)⟩ with
  | out => exact absurd (by rw [← HR.out, hp]; rfl) hne
  | bad =>
    rw [hp] at hr
    obtain rfl : R = .bad := by rw [← HR.out, hp]; rfl
    obtain ⟨g2, b, p, rfl, hb⟩ := hr
    exact ⟨rfl, gw4.trans g2, b, p, rfl, hb⟩
  | ok c s5 =>
    rw [hp] at hr
    have hd5 := (dps n).form hp
    obtain ⟨k', b', ag, ws, ks, ar, rfl⟩ := form_bare hp
    have HR2 := hide' (show (andT (redirsP n [] ⟨s5.ts, s5.dp - 1, s5.dm⟩) fun rs' s2 => .ok (.mk k' b' ag ws rs' ks ar) s2) = R by rw [← HR.out, hp]; rfl)
    obtain ⟨g5, h5, v, rfl, hv⟩ := hr
    obtain ⟨k, nt, a1, a2, a3, a4, a5, n1, n2, n3, n4, n5, c1, c2, c3, c4, c5, rfl, hc⟩ := hv.form
    obtain ⟨rfl, rfl⟩ := cd_head hc
    have hr0 := rows_none (cd_bare hc)
    cases hr0
    have z5 := g5.blk (b := w.heap.size) (by dsimp only; omega) z4
    have hs5 : w4.heap.size ≤ w5.heap.size := g5.size
    dsimp only at hd5
    obtain ⟨p5, h5⟩ := h5
    have hpl5 := h5.lt
    have hdl5 := h5.dpl
    have hln5 := h5.len
    dsimp only at hpl5 hln5
    -- the box
    obtain ⟨w6, hw6⟩ : ∃ w6, w6 = w5.alloc (.cells #[.int .i64 k, .bool nt, .slice a1 n1 c1, .slice a2 n2 c2, .slice none 0 0, .slice a4 n4 c4, .slice a5 n5 c5] 28) := ⟨_, rfl⟩
    have hb6 : Below w5.heap.size w5 w6 := by rw [hw6]; exact (Below.refl _ _).alloc (Nat.le_refl _) _
    have zb : w6.heap[w5.heap.size]? = some (.cells #[.int .i64 k, .bool nt, .slice a1 n1 c1, .slice a2 n2 c2, .slice none 0 0, .slice a4 n4 c4, .slice a5 n5 c5] 28 (0, 0)) := by rw [hw6]; exact heap_alloc_new w5 _
    have h6 := h5.below hb6
    have hB6 : BoxAt ⟨A, M, g, cap, tk⟩ w w6 s5 w5.heap.size #[.int .i64 k, .bool nt, .slice a1 n1 c1, .slice a2 n2 c2, .slice none 0 0, .slice a4 n4 c4, .slice a5 n5 c5] := ⟨⟨p5, h6⟩, (gw4.trans g5).trans (Gr.of_below hb6), (hb6.block _ (lt_of_block z5)).trans z5, zb, by omega⟩
    have hc6 : CdAt w6 (fun g' => KS w w5.heap.size g' ∧ (Value.slice none 0 0).ownBlock ≠ some g') [.int .i64 k, .bool nt, .slice a1 n1 c1, .slice a2 n2 c2, .slice none 0 0, .slice a4 n4 c4, .slice a5 n5 c5] (.mk k nt ag ws [] ks ar) := (hc.mono fun g' h1 h2 => ⟨⟨by omega, by omega⟩, fun e => by cases e⟩).kept fun g' _ hg' => hb6.block g' hg'
    -- one less is open
    obtain ⟨d5, hd5e⟩ : ∃ d5 : Nat, d5 = s.dp := ⟨_, rfl⟩
    have hd5b : d5 ≤ 5000 := by omega
    have hst := h6.set p5 ⟨s5.ts, s5.dp - 1, s5.dm⟩ 3 (.int .i64 (d5 : Int)) (by
      show #[_, _, _, Value.int .i64 (d5 : Int), _] = #[_, _, _, Value.int .i64 ((s5.dp - 1 : Nat) : Int), _]
      rw [show s5.dp - 1 = d5 by omega]) h5.ts h5.good (by show s5.dp - 1 ≤ p5; omega) h5.dml
    have k3 : w6.cell? ⟨A, 3, none⟩ = some (.int .i64 ((d5 : Int) + 1)) := by
      rw [h6.fields.2.2.2.1, hd5, ← hd5e]
      rfl
    have f3 := h6.fz 3
    dsimp only at f3
    have hwr : IntKind.i64.wrap ((d5 : Int) + 1 - 1) = (d5 : Int) := by rw [IntKind.wrap_i64]; omega
    obtain ⟨w7, hw7⟩ : ∃ w7, w7 = w6.setCell ⟨A, 3, none⟩ (.int .i64 (d5 : Int)) := ⟨_, rfl⟩
    dsimp only at hst
    rw [← hw7] at hst
    have HB := hide' (hB6.call hst.2 ⟨p5, hst.1⟩ (by dsimp only; omega))
    have HC := hide' (show CdAt w7 (fun g' => KS w w5.heap.size g' ∧ (Value.slice none 0 0).ownBlock ≠ some g') [.int .i64 k, .bool nt, .slice a1 n1 c1, .slice a2 n2 c2, .slice none 0 0, .slice a4 n4 c4, .slice a5 n5 c5] (.mk k nt ag ws [] ks ar) from hc6.kept fun g' hg' hl => hst.2.block g' hl fun e => by have e' : g' = A := Option.some.inj e; have := hg'.1.1; omega)
    have hs6 : w6.heap.size = w5.heap.size + 1 := by rw [hw6]; simp
    have hs7 : w6.heap.size ≤ w7.heap.size := hst.2.size
    obtain ⟨bx, hbx⟩ : ∃ bx, bx = w5.heap.size := ⟨_, rfl⟩
    have hbl : w.heap.size < bx := by omega
    have HW6 := hide' hw6
    have HW7 := hide' hw7
    clear hp hv hc z4 z5 g5 h5 hb6 zb h6 hB6 hc6 hst hw6 hw7 gw4 HQ HR hd5e hdl5
    dsimp only
    go_upto_region 8 with fail
    rw [← HW6.out]
    go_wp2_with fail
    rw [← HW7.out]
    rw [← hbx] at HB HC ⊢
    clear hbx k3 f3 hwr
    go_loopg [] n (fun gk wr => gk ≤ n ∧ ∃ s' ra rn rcap rs, BoxAt ⟨A, M, g, cap, tk⟩ w wr s' bx #[.int .i64 k, .bool nt, .slice a1 n1 c1, .slice a2 n2 c2, .slice ra rn rcap, .slice a4 n4 c4, .slice a5 n5 c5] ∧ RowS wr (KS w bx) 65 2 (.slice ra rn rcap) rn (rs.flatMap redC) ∧ rn = rs.length ∧ CdAt wr (fun g' => KS w bx g' ∧ (Value.slice ra rn rcap).ownBlock ≠ some g') [.int .i64 k, .bool nt, .slice a1 n1 c1, .slice a2 n2 c2, .slice none 0 0, .slice a4 n4 c4, .slice a5 n5 c5] (.mk k nt ag ws [] ks ar) ∧ rn + gk ≤ n ∧ (andT (redirsP gk rs s') fun rs' s2 => .ok (.mk k nt ag ws rs' ks ar) s2) = R)
    case atStart => exact ⟨Nat.le_refl _, _, none, 0, 0, [], HB.out, RowS.nil _ _ _ _, rfl, HC.out, by omega, HR2.out⟩
    obtain ⟨hgk, s8, ra, rn, rcap, rs, hB, hRo, hrn, hC8, hbd, hRL⟩ := hrel
    have hBs := lt_of_block hB.box
    have HRN := hide' hrn
    clear HB HC HR2 hrn
    cases gk with
    | zero => exact absurd (by rw [← hRL]; rfl) hne
    | succ gk' =>
    rw [redirsP] at hRL
    have q := atRedir_any hB.ps
    have HB0 := hide' hB
    have HR0 := hide' hRo
    have HC0 := hide' hC8
    have HR2 := hide' hRL
    obtain ⟨rb, hrb⟩ : ∃ rb, redB (tx s8.ts) = rb := ⟨_, rfl⟩
    rw [hrb] at q
    have HRB := hide' hrb
    clear hB hRo hC8 hRL hrb
    go_wp2_with fail
    refine q.mono ?_
    rintro e w9 ⟨rfl, m, hw9⟩
    clear q
    have hB9 : BoxAt ⟨A, M, g, cap, tk⟩ w w9 s8 bx #[.int .i64 k, .bool nt, .slice a1 n1 c1, .slice a2 n2 c2, .slice ra rn rcap, .slice a4 n4 c4, .slice a5 n5 c5] := by rw [hw9]; exact HB0.out.below (below_drewn m)
    have hR9 : RowS w9 (KS w bx) 65 2 (.slice ra rn rcap) rn (rs.flatMap redC) := by rw [hw9]; exact HR0.out.kept fun _ _ _ => rfl
    have hC9 : CdAt w9 (fun g' => KS w bx g' ∧ (Value.slice ra rn rcap).ownBlock ≠ some g') [.int .i64 k, .bool nt, .slice a1 n1 c1, .slice a2 n2 c2, .slice none 0 0, .slice a4 n4 c4, .slice a5 n5 c5] (.mk k nt ag ws [] ks ar) := by rw [hw9]; exact HC0.out.kept fun _ _ _ => rfl
    have hs9 : wr.heap.size = w9.heap.size := by rw [hw9]; rfl
    clear hw9 HB0 HR0 HC0
    cases rb with
    | false =>
      obtain rfl : R = .ok (.mk k nt ag ws rs ks ar) s8 := by rw [← HR2.out, if_neg (by rw [HRB.out]; decide)]; rfl
      have hRr : RedsS w9 (fun g' => w.heap.size + 1 ≤ g') (.slice ra rn rcap) rs := by
        have := hR9.mono (S' := fun g' => w.heap.size + 1 ≤ g') fun g' hg' _ => hg'.1
        rw [HRN.out] at this ⊢
        exact this
      have hcc := with_redirs (hC9.mono (S' := fun g' => w.heap.size + 1 ≤ g') fun g' hg' _ => hg'.1.1) hRr
      have HE := hide' (prr_end hB9.gr hB9.ps hB9.res hcc)
      obtain ⟨o0, o1, o2, o3, o4, o5, o6⟩ := cells7 hB9.box
      obtain ⟨r0, r1, r2, r3, r4, r5, r6⟩ := cells7 hB9.res
      obtain ⟨f0, f1, f2, f3, f4, f5, f6⟩ := fz7 hB9.res
      clear hB9 hR9 hC9 hRr hcc HRN HR2 HRB hne
      dsimp only
      go_wp2
      obtain ⟨hV, hbk⟩ := HE.out _ rfl
      obtain ⟨d0, d1, d2, d3, d4, d5, d6⟩ := cells7 hbk
      refine bodyPost_ret (v := .agg #[.int .i64 k, .bool nt, .slice a1 n1 c1, .slice a2 n2 c2, .slice ra rn rcap, .slice a4 n4 c4, .slice a5 n5 c5]) (by simp [results, Tryz.results126, go_sem, d0, d1, d2, d3, d4, d5, d6]) rfl ?_
      exact hV
    | true =>
      have HR3 := hide' (show (andT (redirP s8) fun r s' => andT (redirsP gk' (rs ++ [r]) s') fun rs' s2 => .ok (.mk k nt ag ws rs' ks ar) s2) = R by
        rw [← HR2.out, if_pos HRB.out]
        cases redirP s8 <;> rfl)
      have htx8 : tx s8.ts ≠ [] := fun e => by have := HRB.out; rw [e] at this; revert this; decide
      have HNo := hide' (show redirP s8 ≠ .out from fun e => hne (by rw [← HR3.out, e]; rfl))
      have q := redir_step w9.drew s8 hB9.ps.drew htx8
      have hlW : bx < w9.drew.heap.size := by show _ < w9.heap.size; omega
      have HB := hide' hB9
      have HRo := hide' hR9
      have HC := hide' hC9
      clear hB9 hR9 hC9 htx8 HR2
      dsimp only
      go_upto_region 10 with fail
      refine wp_region_classX [7] (C := BxC bx 4 (.slice ra rn rcap)) (by kernel_rfl) ?_
      have hC : BxC bx 4 (.slice ra rn rcap) w9.drew := ⟨by rw [show w9.drew.cell? ⟨bx, 4, none⟩ = w9.cell? ⟨bx, 4, none⟩ from rfl, Lib.cell_of_heap HB.out.box]; rfl⟩
      (refine wpAnyX_take (i := 0) (v := ?_) hC rfl (by kernel_rfl) (by kernel_rfl) (by kernel_rfl) (by kernel_rfl) (fun _ _ _ h => h) (Or.inl ⟨by kernel_rfl, ?_⟩) ?_; rotate_left; (intro w hc; have k3 := hc.c; clear hc; go_simp; try with_reducible rfl))
      (refine wpAnyX_take (i := 1) (v := ?_) hC rfl (by kernel_rfl) (by kernel_rfl) (by kernel_rfl) (by kernel_rfl) (fun _ _ _ h => h) (Or.inl ⟨by kernel_rfl, ?_⟩) ?_; rotate_left; (intro w hc; have k3 := hc.c; clear hc; go_simp; try with_reducible rfl))
      (refine wpAnyX_take (i := 2) (v := ?_) hC rfl (by kernel_rfl) (by kernel_rfl) (by kernel_rfl) (by kernel_rfl) (fun _ _ _ h => h) (Or.inl ⟨by kernel_rfl, ?_⟩) ?_; rotate_left; (intro w hc; have k3 := hc.c; clear hc; go_simp; try with_reducible rfl))
      refine wpAnyX_one (i := 3) (by kernel_rfl) (wpOp_wanted rfl (by rfl) ?_)
      go_simp
      refine q.mono ?_
      rintro e w3 hr
      clear q hC
      cases hp : redirP s8 with
      | out => exact absurd hp HNo.out
      | bad =>
        rw [hp] at hr
        obtain rfl : R = .bad := by rw [← HR3.out, hp]; rfl
        obtain ⟨g3, b, p, rfl, hb⟩ := hr
        exact ⟨rfl, HB.out.gr.trans ((Gr.drew _ _).trans g3), b, p, rfl, hb⟩
      | ok rr s9 =>
        rw [hp] at hr
        have HR4 := hide' (show (andT (redirsP gk' (rs ++ [rr]) s9) fun rs' s2 => .ok (.mk k nt ag ws rs' ks ar) s2) = R by rw [← HR3.out, hp]; rfl)
        obtain ⟨g3, h3, v, rfl, hv⟩ := hr
        obtain rfl : v = .agg #[.string (mk rr.1), .string (mk rr.2)] := hv
        have hB3 := HB.out.drew.call g3 h3 hAl
        have hs3 := g3.size
        have hb4 : Below w3.heap.size w3 (w3.alloc (.cells #[.string (mk rr.1), .string (mk rr.2)] 65)) := (Below.refl _ _).alloc (Nat.le_refl _) _
        have hB4 := hB3.below hb4
        have hC3 : BxC bx 4 (.slice ra rn rcap) w3 := ⟨by rw [Lib.cell_of_heap hB3.box]; rfl⟩
        have hC4 : BxC bx 4 (.slice ra rn rcap) (w3.alloc (.cells #[.string (mk rr.1), .string (mk rr.2)] 65)) := ⟨by rw [Lib.cell_of_heap hB4.box]; rfl⟩
        have hR4 : RowS (w3.alloc (.cells #[.string (mk rr.1), .string (mk rr.2)] 65)) (KS w bx) 65 2 (.slice ra rn rcap) rn (rs.flatMap redC) := (HRo.out.kept fun g' hg' hl => g3.block g' hl fun e => by have h0 := Option.some.inj e; (try dsimp only at h0); have := hg'.1; omega).kept fun g' _ hl => hb4.block g' hl
        have hown := hR4.own
        have hnew : ∀ (j : Nat) u, ([.string (mk rr.1), .string (mk rr.2)] : List Value)[j]? = some u → (w3.alloc (.cells #[.string (mk rr.1), .string (mk rr.2)] 65)).cell? ((⟨w3.heap.size, 0, none⟩ : Addr).add j) = some u := fun j u hj => by rw [Addr.add_lit, Nat.zero_add, Lib.cell_of_heap (heap_alloc_new w3 _)]; simpa using hj
        have HJ := hide' (And.intro hB3 g3)
        clear hB3 hB4 hR4 g3 h3 hb4 hp
        dsimp only
        refine ⟨hC3, ?_⟩
        refine wpAnyX_one (i := 4) (by kernel_rfl) (wpOp_wanted rfl (by rfl) ?_)
        go_simp
        obtain ⟨inf, hi, hz0, hz1, hz2⟩ := info_parts infoRed
        refine wpAnyX_one (i := 5) (by kernel_rfl) (wpOp_wanted rfl (by rfl) ?_)
        refine wp_append_lies _ _ _ 24 rfl 0 65 inf _ 2 32 Tryz.underlying24 hi hz0 hz1 hz2 rfl (by decide) (.slice ra rn rcap) rn (rs.flatMap redC) rfl hown ⟨w3.heap.size, 0, none⟩ 1 1 [.string (mk rr.1), .string (mk rr.2)] rfl rfl hnew (by simp [Value.oneCell']) (by decide) (by unfold maxLen; omega) (by omega) (Nat.zero_le _) _ rfl ?_
        intro g cap w4 ho hg hat _
        clear hi hz0 hz1 hz2 hown hnew hC3 hC4
        obtain ⟨hB3, g3⟩ := HJ.out
        obtain ⟨hB4, hB5, hR5, hkp, hap⟩ := push_row (w2 := w9.drew) (f := 4) hB3 (HRo.out.kept fun _ _ _ => rfl) (by decide) g3 hAl hlW ho hg hat
        have e5 : w4.cell? ⟨bx, 4, none⟩ = some (.slice ra rn rcap) := by rw [Lib.cell_of_heap hB4.box]; rfl
        have f5 := Lib.frozen_of_heap hB4.box 4
        have hC5 : BxC bx 4 (.slice ra rn rcap) w4 := ⟨e5⟩
        have HB5 := hide' hB5
        have HR5 := hide' hR5
        have HKP := hide' (And.intro hkp hap)
        clear hB3 hB4 hB5 hR5 g3 ho hg hat HJ HB HRo hkp hap
        refine ⟨fun _ => hC5, ?_⟩
        refine wpAnyX_one (i := 6) (by kernel_rfl) (wpOp_wanted rfl (by rfl) ?_)
        go_simp
        refine wpAnyX_one (i := 7) (by kernel_rfl) (wpOp_wanted rfl (by rfl) ?_)
        go_simp
        refine wpAnyX_done (by kernel_rfl) ?_ _
        clear hC5 e5 f5
        have HC5 := hide' (show CdAt _ (fun g' => KS w bx g' ∧ (Value.slice (some ⟨g, 0, none⟩) (rn + 1) cap).ownBlock ≠ some g') [.int .i64 k, .bool nt, .slice a1 n1 c1, .slice a2 n2 c2, .slice none 0 0, .slice a4 n4 c4, .slice a5 n5 c5] (.mk k nt ag ws [] ks ar) from ((HC.out.mono (S' := fun g' => (KS w bx g' ∧ (Value.slice (some ⟨g, 0, none⟩) (rn + 1) cap).ownBlock ≠ some g') ∧ (KS w bx g' ∧ (Value.slice ra rn rcap).ownBlock ≠ some g' ∧ g' < w9.heap.size)) fun g' h1 h2 => ⟨⟨h1.1, HKP.out.2 g' h2 h1.2⟩, h1.1, h1.2, h2⟩).kept fun g' h1 _ => HKP.out.1 g' h1.2.1 h1.2.2.2 h1.2.2.1).mono fun g' h1 _ => h1.1)
        go_wp2_with fail
        go_roundg gk'
        case rel => exact ⟨by omega, s9, some ⟨g, 0, none⟩, rn + 1, cap, rs ++ [rr], HB5.out, by have h := HR5.out; rw [List.flatMap_append]; simpa [redC] using h, by rw [HRN.out]; simp, HC5.out, by omega, HR4.out⟩
        case measure => omega
end Go.Proofs.YtcemlhfodpelaaaGreatDoor
