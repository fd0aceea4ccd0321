/- andor. -/
import Derived.Test.YtcemlhfodpelaaaGreatDoorZk
import Derived.Test.YtcemlhfodpelaaaGreatDoorZf
namespace Go.Proofs.YtcemlhfodpelaaaGreatDoor
open Go.RowKit

/-- a new row of commands -/
theorem kids_newS (W : World) (S : Nat → Prop) (kc : List (List Value)) (ks : List Cd) (cells : Array Value) (hl : kc.length = ks.length) (hk : ∀ (i : Nat) cs c, kc[i]? = some cs → ks[i]? = some c → CdAt W S cs c) (hB : S W.heap.size) (hc : cells.toList = kc.flatten) (h7 : cells.size = ks.length * 7) (hm : ks.length ≤ 100) (h0 : 0 < ks.length) :
    KidsS (W.alloc (.cells cells 28)) S (.slice (some ⟨W.heap.size, 0, none⟩) ks.length ks.length) kc ks := by
  have hb : Below W.heap.size W (W.alloc (.cells cells 28)) := (Below.refl _ _).alloc (Nat.le_refl _) _
  refine ⟨⟨by rw [← hc, Array.length_toList, h7], .inr ⟨W.heap.size, ks.length, cells, rfl, hB, heap_alloc_new W _, Nat.le_refl _, by unfold maxLen; omega, h7, ?_, h0⟩⟩, hl, fun i cs c h1 h2 => ?_⟩
  · rw [← h7, ← Array.length_toList, List.take_length, hc]
  · exact ((hk i cs c h1 h2).mono (S' := fun g => S g ∧ (Value.slice (some ⟨W.heap.size, 0, none⟩) ks.length ks.length).ownBlock ≠ some g) fun g hg hs => ⟨hg, fun e => by have e : W.heap.size = g := Option.some.inj e; omega⟩).kept fun g _ hg => hb.block g hg
structure BxC7 (b : Nat) (v0 v1 v2 v3 v4 v5 v6 : Value) (w : World) : Prop where
  c0 : w.cell? ⟨b, 0, none⟩ = some v0
  c1 : w.cell? ⟨b, 1, none⟩ = some v1
  c2 : w.cell? ⟨b, 2, none⟩ = some v2
  c3 : w.cell? ⟨b, 3, none⟩ = some v3
  c4 : w.cell? ⟨b, 4, none⟩ = some v4
  c5 : w.cell? ⟨b, 5, none⟩ = some v5
  c6 : w.cell? ⟨b, 6, none⟩ = some v6
theorem bxc7 {w : World} {b : Nat} {v0 v1 v2 v3 v4 v5 v6 : Value} (h : w.heap[b]? = some (.cells #[v0, v1, v2, v3, v4, v5, v6] 28 (0, 0))) : BxC7 b v0 v1 v2 v3 v4 v5 v6 w := by
  obtain ⟨h0, h1, h2, h3, h4, h5, h6⟩ := cells7 h
  exact ⟨h0, h1, h2, h3, h4, h5, h6⟩
theorem BoxAt.set7 {x : Cx} {w0 w : World} {s : PS} {bx : Nat} {u0 u1 u2 u3 u4 u5 u6 : Value} (h : BoxAt x w0 w s bx #[u0, u1, u2, u3, u4, u5, u6]) (v0 v1 v2 v3 v4 v5 v6 : Value) : BoxAt x w0 (set7 w bx v0 v1 v2 v3 v4 v5 v6) s bx #[v0, v1, v2, v3, v4, v5, v6] := by
  have hg := set7_grown w bx v0 v1 v2 v3 v4 v5 v6
  have hlo := h.lo
  exact ⟨h.ps.grown hg fun b e => by cases e; exact ⟨_, _, h.box, by decide, by decide, by decide⟩, h.gr.grown hg fun b e => by cases e; omega, (hg.block _ (lt_of_block h.res) fun e => by have := Option.some.inj e; omega).trans h.res, set7_blk h.box v0 v1 v2 v3 v4 v5 v6, hlo⟩
set_option maxRecDepth 100000 in
set_option maxHeartbeats 4000000 in
theorem andor_step {x : Cx} {n : Nat} (hCm : ∀ n', n' ≤ n → ∀ w s, PsAt w x s → pipeP n' s ≠ .out → Calls Tryz.prog 100 #[ptr x.A] w (PrR x w (pipeP n' s) (CmdV w.heap.size))) (w : World) (s : PS) (h : PsAt w x s) (hne : andorP (n + 1) s ≠ .out) : Calls Tryz.prog 84 #[ptr x.A] w (PrR x w (andorP (n + 1) s) (CmdV w.heap.size)) := by
  have hAl := h.lt
  obtain ⟨W, hW, h0, g0, z0, s0⟩ := res_laid h
  have HW := hide' hW
  obtain ⟨R, hR⟩ : ∃ R, andorP (n + 1) s = R := ⟨_, rfl⟩
  rw [hR] at hne ⊢
  rw [andorP] at hR
  have HR := hide' (And.intro hR hne)
  have HNo := hide' (show pipeP n s ≠ .out from fun e => hne (by rw [← hR, e]; rfl))
  have q := hCm n (Nat.le_refl _) W s h0 HNo.out
  have HH := hide' (And.intro g0 (And.intro z0 s0))
  clear hW h0 g0 z0 s0 h hR hne
  go_enter Tryz.func84, Tryz.ntmps84
  go_wp2_with fail
  rw [← HW.out]
  refine q.mono ?_
  rintro e w1 hr
  clear q
  obtain ⟨g0, z0, s0⟩ := HH.out
  cases hp : pipeP n s with
  | out => exact absurd hp HNo.out
  | bad =>
    rw [hp] at hr
    obtain rfl : R = .bad := by rw [← HR.out.1, hp]; rfl
    obtain ⟨g3, b, p, rfl, hb⟩ := hr
    exact ⟨rfl, g0.trans g3, b, p, rfl, hb⟩
  | ok c s1 =>
    rw [hp] at hr
    have HR2 := hide' (show andorL n c s1 = R by rw [← HR.out.1, hp]; rfl)
    obtain ⟨g1, h1, v, rfl, hv⟩ := hr
    obtain ⟨k, nt, a1, a2, a3, a4, a5, n1, n2, n3, n4, n5, c1, c2, c3, c4, c5, rfl, hc⟩ := hv.form
    have z1 := g1.blk (by omega) z0
    have hs1 := g1.size
    obtain ⟨w2, hw2⟩ : ∃ w2, w2 = w1.alloc (.cells #[.int .i64 k, .bool nt, .slice a1 n1 c1, .slice a2 n2 c2, .slice a3 n3 c3, .slice a4 n4 c4, .slice a5 n5 c5] 28) := ⟨_, rfl⟩
    have hb2 : Below w1.heap.size w1 w2 := by rw [hw2]; exact (Below.refl _ _).alloc (Nat.le_refl _) _
    have zb : w2.heap[w1.heap.size]? = some (.cells #[.int .i64 k, .bool nt, .slice a1 n1 c1, .slice a2 n2 c2, .slice a3 n3 c3, .slice a4 n4 c4, .slice a5 n5 c5] 28 (0, 0)) := by rw [hw2]; exact heap_alloc_new w1 _
    have HK := hide' (show CdAt w2 (KS w w1.heap.size) [.int .i64 k, .bool nt, .slice a1 n1 c1, .slice a2 n2 c2, .slice a3 n3 c3, .slice a4 n4 c4, .slice a5 n5 c5] c from (hc.mono fun g hg hl => ⟨by omega, by omega⟩).kept fun g _ hg => hb2.block g hg)
    have HB := hide' (show BoxAt x w w2 s1 w1.heap.size #[.int .i64 k, .bool nt, .slice a1 n1 c1, .slice a2 n2 c2, .slice a3 n3 c3, .slice a4 n4 c4, .slice a5 n5 c5] from ⟨h1.below hb2, (g0.trans g1).trans (Gr.of_below hb2), (hb2.block _ (lt_of_block z1)).trans z1, zb, by omega⟩)
    obtain ⟨bx, hbx⟩ : ∃ bx, bx = w1.heap.size := ⟨_, rfl⟩
    have HBX := hide' hbx
    have hbl : w.heap.size < bx := by omega
    have HW2 := hide' hw2
    clear hb2 hw2 h1 g1 g0 z0 z1 HH zb hc hv hp
    dsimp only
    go_wp2_with fail
    rw [← HW2.out]
    rw [← hbx] at HB HK ⊢
    clear hbx
    go_loopg [4] n (fun gk _ wr => gk ≤ n ∧ ∃ s' c', ∃ (k : Nat) (nt : Bool) (a1 a2 a3 a4 a5 : Option Addr) (n1 n2 n3 n4 n5 c1 c2 c3 c4 c5 : Nat), BoxAt x w wr s' bx #[.int .i64 k, .bool nt, .slice a1 n1 c1, .slice a2 n2 c2, .slice a3 n3 c3, .slice a4 n4 c4, .slice a5 n5 c5] ∧ CdAt wr (KS w bx) [.int .i64 k, .bool nt, .slice a1 n1 c1, .slice a2 n2 c2, .slice a3 n3 c3, .slice a4 n4 c4, .slice a5 n5 c5] c' ∧ andorL gk c' s' = R)
    case atStart => exact ⟨Nat.le_refl _, s1, c, _, _, _, _, _, _, _, _, _, _, _, _, _, _, _, _, _, HB.out, HK.out, HR2.out⟩
    obtain ⟨hgk, s4, c', k, nt, a1, a2, a3, a4, a5, n1, n2, n3, n4, n5, c1, c2, c3, c4, c5, hB, hK, hRL⟩ := hrel
    have hBs := lt_of_block hB.box
    clear HB HK HR2
    cases gk with
    | zero => exact absurd (by rw [← hRL]; rfl) HR.out.2
    | succ gk' =>
    rw [andorL] at hRL
    have q := text_any hB.ps
    have HB0 := hide' hB
    have HK0 := hide' hK
    have HR2 := hide' hRL
    obtain ⟨tt, htt⟩ : ∃ tt, tx s4.ts = tt := ⟨_, rfl⟩
    rw [htt] at q
    have HT := hide' htt
    clear hB hK hRL htt
    go_wp2_with fail
    refine q.mono ?_
    rintro e w5 ⟨rfl, m, hw5⟩
    clear q
    have hB5 : BoxAt x w w5 s4 bx #[.int .i64 k, .bool nt, .slice a1 n1 c1, .slice a2 n2 c2, .slice a3 n3 c3, .slice a4 n4 c4, .slice a5 n5 c5] := by rw [hw5]; exact HB0.out.below (below_drewn m)
    have hK5 : CdAt w5 (KS w bx) [.int .i64 k, .bool nt, .slice a1 n1 c1, .slice a2 n2 c2, .slice a3 n3 c3, .slice a4 n4 c4, .slice a5 n5 c5] c' := by rw [hw5]; exact HK0.out.kept fun _ _ _ => rfl
    have hs5 : wr.heap.size = w5.heap.size := by rw [hw5]; rfl
    clear hw5 HB0 HK0
    by_cases hany : tt = [124, 124] ∨ tt = [38, 38]
    · -- one more
      obtain ⟨kk, hkk⟩ : ∃ kk : Nat, (tt = [124, 124] ∧ kk = 4) ∨ (tt = [38, 38] ∧ kk = 3) := by
        rcases hany with e | e
        · exact ⟨4, .inl ⟨e, rfl⟩⟩
        · exact ⟨3, .inr ⟨e, rfl⟩⟩
      have HR3 := hide' (show (andT (pipeP gk' s4.nx.sk) fun d s' => andorL gk' (.mk kk false [] [] [] [c', d] []) s') = R by
        rw [← HR2.out, HT.out]
        rcases hkk with ⟨rfl, rfl⟩ | ⟨rfl, rfl⟩
        · rw [if_pos rfl]
        · rw [if_neg (by decide), if_pos rfl])
      obtain ⟨p, pa1, pf1, hw, hP, hG⟩ := nx_facts hB5.ps (by rw [HT.out]; rcases hany with rfl | rfl <;> simp)
      have q := skip_any hP
      have HB1 := hide' (hB5.call hG hP hAl)
      have HK1 := hide' (show CdAt (w5.setCell ⟨x.A, 1, none⟩ (.int .i64 ((p + 1 : Nat) : Int))) (KS w bx) [.int .i64 k, .bool nt, .slice a1 n1 c1, .slice a2 n2 c2, .slice a3 n3 c3, .slice a4 n4 c4, .slice a5 n5 c5] c' from hK5.kept fun g' hg' hl => hG.block g' hl fun e => by have := Option.some.inj e; have := hg'.1; omega)
      have hs6' := hG.size
      clear hB5 hK5 hP hG HR2 hany
      rcases hkk with ⟨rfl, rfl⟩ | ⟨rfl, rfl⟩
      · dsimp only
        go_wp2_with fail
        refine q.mono ?_
        rintro e w6 ⟨rfl, h6, g6⟩
        clear q
        have HB := hide' (HB1.out.call g6 h6 hAl)
        have HK := hide' (show CdAt w6 (KS w bx) [.int .i64 k, .bool nt, .slice a1 n1 c1, .slice a2 n2 c2, .slice a3 n3 c3, .slice a4 n4 c4, .slice a5 n5 c5] c' from HK1.out.kept fun g' hg' hl => g6.block g' hl fun e => by have := Option.some.inj e; have := hg'.1; omega)
        have hs6 := g6.size
        have HNo := hide' (show pipeP gk' s4.nx.sk ≠ .out from fun e => HR.out.2 (by rw [← HR3.out, e]; rfl))
        have q := hCm gk' (by omega) w6.drew s4.nx.sk h6.drew HNo.out
        clear HB1 HK1 h6 g6 pa1 pf1 hw
        dsimp only
        go_upto_region 9 with fail
        refine wp_region_classX [6] (C := BxC7 bx (.int .i64 k) (.bool nt) (.slice a1 n1 c1) (.slice a2 n2 c2) (.slice a3 n3 c3) (.slice a4 n4 c4) (.slice a5 n5 c5)) (by kernel_rfl) ?_
        have hC : BxC7 bx (.int .i64 k) (.bool nt) (.slice a1 n1 c1) (.slice a2 n2 c2) (.slice a3 n3 c3) (.slice a4 n4 c4) (.slice a5 n5 c5) w6.drew := bxc7 HB.out.drew.box
        (refine wpAnyX_take (i := 0) (v := ?_) hC rfl (by kernel_rfl) (by kernel_rfl) (by kernel_rfl) (by kernel_rfl) (fun _ _ _ h => h) (Or.inl ⟨by kernel_rfl, ?_⟩) ?_; rotate_left; (intro w hc; have k0 := hc.c0; have k1 := hc.c1; have k2 := hc.c2; have k3 := hc.c3; have k4 := hc.c4; have k5 := hc.c5; have k6 := hc.c6; clear hc; go_simp; try with_reducible rfl))
        (refine wpAnyX_take (i := 1) (v := ?_) hC rfl (by kernel_rfl) (by kernel_rfl) (by kernel_rfl) (by kernel_rfl) (fun _ _ _ h => h) (Or.inl ⟨by kernel_rfl, ?_⟩) ?_; rotate_left; (intro w hc; have k0 := hc.c0; have k1 := hc.c1; have k2 := hc.c2; have k3 := hc.c3; have k4 := hc.c4; have k5 := hc.c5; have k6 := hc.c6; clear hc; go_simp; try with_reducible rfl))
        (refine wpAnyX_take (i := 2) (v := ?_) hC rfl (by kernel_rfl) (by kernel_rfl) (by kernel_rfl) (by kernel_rfl) (fun _ _ _ h => h) (Or.inl ⟨by kernel_rfl, ?_⟩) ?_; rotate_left; (intro w hc; have k0 := hc.c0; have k1 := hc.c1; have k2 := hc.c2; have k3 := hc.c3; have k4 := hc.c4; have k5 := hc.c5; have k6 := hc.c6; clear hc; go_simp; try with_reducible rfl))
        refine wpAnyX_one (i := 3) (by kernel_rfl) (wpOp_wanted rfl (by rfl) ?_)
        go_simp
        refine q.mono ?_
        rintro e w3 hr
        clear q hC
        cases hp : pipeP gk' s4.nx.sk with
        | out => exact absurd hp HNo.out
        | bad =>
          rw [hp] at hr
          obtain rfl : R = .bad := by rw [← HR3.out, hp]; rfl
          obtain ⟨g3, b, p, rfl, hb⟩ := hr
          exact ⟨rfl, HB.out.gr.trans ((Gr.drew x _).trans g3), b, p, rfl, hb⟩
        | ok d s6 =>
          rw [hp] at hr
          have HR4 := hide' (show andorL gk' (.mk 4 false [] [] [] [c', d] []) s6 = R by rw [← HR3.out, hp]; rfl)
          obtain ⟨g3, h3, v, rfl, hv⟩ := hr
          obtain ⟨k', nt', b1, b2, b3, b4, b5, m1, m2, m3, m4, m5, d1, d2, d3, d4, d5, rfl, hd⟩ := hv.form
          have hB3 := HB.out.drew.call g3 h3 hAl
          have hs3 : w6.heap.size ≤ w3.heap.size := g3.size
          have hc3 : CdAt w3 (KS w bx) [.int .i64 k, .bool nt, .slice a1 n1 c1, .slice a2 n2 c2, .slice a3 n3 c3, .slice a4 n4 c4, .slice a5 n5 c5] c' := HK.out.kept fun g' hg' hl => g3.block g' hl fun e => by have := Option.some.inj e; have := hg'.1; omega
          have hd3 : CdAt w3 (KS w bx) [.int .i64 k', .bool nt', .slice b1 m1 d1, .slice b2 m2 d2, .slice b3 m3 d3, .slice b4 m4 d4, .slice b5 m5 d5] d := hd.mono fun g' hg' _ => by have hg' : w6.heap.size ≤ g' := hg'; exact ⟨by omega, by omega⟩
          have hK4 := kids_newS w3 (KS w bx) [[.int .i64 k, .bool nt, .slice a1 n1 c1, .slice a2 n2 c2, .slice a3 n3 c3, .slice a4 n4 c4, .slice a5 n5 c5], [.int .i64 k', .bool nt', .slice b1 m1 d1, .slice b2 m2 d2, .slice b3 m3 d3, .slice b4 m4 d4, .slice b5 m5 d5]] [c', d] #[.int .i64 k, .bool nt, .slice a1 n1 c1, .slice a2 n2 c2, .slice a3 n3 c3, .slice a4 n4 c4, .slice a5 n5 c5, .int .i64 k', .bool nt', .slice b1 m1 d1, .slice b2 m2 d2, .slice b3 m3 d3, .slice b4 m4 d4, .slice b5 m5 d5] rfl (fun i cs c2 e1 e2 => by
            match i, e1, e2 with
            | 0, e1, e2 => cases e1; cases e2; exact hc3
            | 1, e1, e2 => cases e1; cases e2; exact hd3) ⟨by omega, by omega⟩ rfl rfl (by simp) (by simp)
          have hb4 : Below w3.heap.size w3 (w3.alloc (.cells #[.int .i64 k, .bool nt, .slice a1 n1 c1, .slice a2 n2 c2, .slice a3 n3 c3, .slice a4 n4 c4, .slice a5 n5 c5, .int .i64 k', .bool nt', .slice b1 m1 d1, .slice b2 m2 d2, .slice b3 m3 d3, .slice b4 m4 d4, .slice b5 m5 d5] 28)) := (Below.refl _ _).alloc (Nat.le_refl _) _
          have hB4 := hB3.below hb4
          obtain ⟨w4, hw4⟩ : ∃ w4, w4 = w3.alloc (.cells #[.int .i64 k, .bool nt, .slice a1 n1 c1, .slice a2 n2 c2, .slice a3 n3 c3, .slice a4 n4 c4, .slice a5 n5 c5, .int .i64 k', .bool nt', .slice b1 m1 d1, .slice b2 m2 d2, .slice b3 m3 d3, .slice b4 m4 d4, .slice b5 m5 d5] 28) := ⟨_, rfl⟩
          rw [← hw4] at hB4 hK4
          have hC3 : BxC7 bx (.int .i64 k) (.bool nt) (.slice a1 n1 c1) (.slice a2 n2 c2) (.slice a3 n3 c3) (.slice a4 n4 c4) (.slice a5 n5 c5) w3 := bxc7 hB3.box
          have hC4 : BxC7 bx (.int .i64 k) (.bool nt) (.slice a1 n1 c1) (.slice a2 n2 c2) (.slice a3 n3 c3) (.slice a4 n4 c4) (.slice a5 n5 c5) (w3.alloc (.cells #[.int .i64 k, .bool nt, .slice a1 n1 c1, .slice a2 n2 c2, .slice a3 n3 c3, .slice a4 n4 c4, .slice a5 n5 c5, .int .i64 k', .bool nt', .slice b1 m1 d1, .slice b2 m2 d2, .slice b3 m3 d3, .slice b4 m4 d4, .slice b5 m5 d5] 28)) := by rw [← hw4]; exact bxc7 hB4.box
          have HW4 := hide' hw4
          have HB4 := hide' hB4
          have HK4 := hide' hK4
          obtain ⟨r0, r1, r2, r3, r4, r5, r6⟩ := cells7 hB4.box
          obtain ⟨f0, f1, f2, f3, f4, f5, f6⟩ := fz7 hB4.box
          clear hB3 hB4 hK4 g3 h3 hd hv hb4 hp hc3 hd3 HB HK hw4
          dsimp only
          refine ⟨hC3, ?_⟩
          refine wpAnyX_one (i := 4) (by kernel_rfl) (wpOp_wanted rfl (by rfl) ?_)
          go_simp
          rw [← HW4.out] at hC4 ⊢
          refine wpAnyX_one (i := 5) (by kernel_rfl) (wpOp_wanted rfl (by rfl) ?_)
          go_simp
          refine wpAnyX_one (i := 6) (by kernel_rfl) (wpOp_wanted rfl (by rfl) ?_)
          go_simp
          refine wpAnyX_done (by kernel_rfl) ?_ _
          clear hC3 hC4 r0 r1 r2 r3 r4 r5 r6 f0 f1 f2 f3 f4 f5 f6
          have hB5 := HB4.out.set7 (.int .i64 4) (.bool false) (.slice none 0 0) (.slice none 0 0) (.slice none 0 0) (.slice (some ⟨w3.heap.size, 0, none⟩) 2 2) (.slice none 0 0)
          have hK5 : CdAt (Go.Proofs.YtcemlhfodpelaaaGreatDoor.set7 w4 bx (.int .i64 4) (.bool false) (.slice none 0 0) (.slice none 0 0) (.slice none 0 0) (.slice (some ⟨w3.heap.size, 0, none⟩) 2 2) (.slice none 0 0)) (KS w bx) [.int .i64 (4 : Nat), .bool false, .slice none 0 0, .slice none 0 0, .slice none 0 0, .slice (some ⟨w3.heap.size, 0, none⟩) 2 2, .slice none 0 0] (.mk 4 false [] [] [] [c', d] []) := (HK4.out.cmd 4 false).kept fun g' hg' hl => (set7_grown w4 bx _ _ _ _ _ _ _).block g' hl fun e => hg'.2 (Option.some.inj e)
          have HB5 := hide' hB5
          have HK5 := hide' hK5
          clear hB5 hK5 HB4 HK4
          go_wp2_with fail
          go_roundg gk'
          case rel => exact ⟨by omega, s6, .mk 4 false [] [] [] [c', d] [], 4, false, none, none, none, some ⟨w3.heap.size, 0, none⟩, none, 0, 0, 0, 2, 0, 0, 0, 0, 2, 0, HB5.out, HK5.out, HR4.out⟩
          case measure => omega
      · dsimp only
        go_wp2_with fail
        refine q.mono ?_
        rintro e w6 ⟨rfl, h6, g6⟩
        clear q
        have HB := hide' (HB1.out.call g6 h6 hAl)
        have HK := hide' (show CdAt w6 (KS w bx) [.int .i64 k, .bool nt, .slice a1 n1 c1, .slice a2 n2 c2, .slice a3 n3 c3, .slice a4 n4 c4, .slice a5 n5 c5] c' from HK1.out.kept fun g' hg' hl => g6.block g' hl fun e => by have := Option.some.inj e; have := hg'.1; omega)
        have hs6 := g6.size
        have HNo := hide' (show pipeP gk' s4.nx.sk ≠ .out from fun e => HR.out.2 (by rw [← HR3.out, e]; rfl))
        have q := hCm gk' (by omega) w6.drew s4.nx.sk h6.drew HNo.out
        clear HB1 HK1 h6 g6 pa1 pf1 hw
        dsimp only
        go_upto_region 9 with fail
        refine wp_region_classX [6] (C := BxC7 bx (.int .i64 k) (.bool nt) (.slice a1 n1 c1) (.slice a2 n2 c2) (.slice a3 n3 c3) (.slice a4 n4 c4) (.slice a5 n5 c5)) (by kernel_rfl) ?_
        have hC : BxC7 bx (.int .i64 k) (.bool nt) (.slice a1 n1 c1) (.slice a2 n2 c2) (.slice a3 n3 c3) (.slice a4 n4 c4) (.slice a5 n5 c5) w6.drew := bxc7 HB.out.drew.box
        (refine wpAnyX_take (i := 0) (v := ?_) hC rfl (by kernel_rfl) (by kernel_rfl) (by kernel_rfl) (by kernel_rfl) (fun _ _ _ h => h) (Or.inl ⟨by kernel_rfl, ?_⟩) ?_; rotate_left; (intro w hc; have k0 := hc.c0; have k1 := hc.c1; have k2 := hc.c2; have k3 := hc.c3; have k4 := hc.c4; have k5 := hc.c5; have k6 := hc.c6; clear hc; go_simp; try with_reducible rfl))
        (refine wpAnyX_take (i := 1) (v := ?_) hC rfl (by kernel_rfl) (by kernel_rfl) (by kernel_rfl) (by kernel_rfl) (fun _ _ _ h => h) (Or.inl ⟨by kernel_rfl, ?_⟩) ?_; rotate_left; (intro w hc; have k0 := hc.c0; have k1 := hc.c1; have k2 := hc.c2; have k3 := hc.c3; have k4 := hc.c4; have k5 := hc.c5; have k6 := hc.c6; clear hc; go_simp; try with_reducible rfl))
        (refine wpAnyX_take (i := 2) (v := ?_) hC rfl (by kernel_rfl) (by kernel_rfl) (by kernel_rfl) (by kernel_rfl) (fun _ _ _ h => h) (Or.inl ⟨by kernel_rfl, ?_⟩) ?_; rotate_left; (intro w hc; have k0 := hc.c0; have k1 := hc.c1; have k2 := hc.c2; have k3 := hc.c3; have k4 := hc.c4; have k5 := hc.c5; have k6 := hc.c6; clear hc; go_simp; try with_reducible rfl))
        refine wpAnyX_one (i := 3) (by kernel_rfl) (wpOp_wanted rfl (by rfl) ?_)
        go_simp
        refine q.mono ?_
        rintro e w3 hr
        clear q hC
        cases hp : pipeP gk' s4.nx.sk with
        | out => exact absurd hp HNo.out
        | bad =>
          rw [hp] at hr
          obtain rfl : R = .bad := by rw [← HR3.out, hp]; rfl
          obtain ⟨g3, b, p, rfl, hb⟩ := hr
          exact ⟨rfl, HB.out.gr.trans ((Gr.drew x _).trans g3), b, p, rfl, hb⟩
        | ok d s6 =>
          rw [hp] at hr
          have HR4 := hide' (show andorL gk' (.mk 3 false [] [] [] [c', d] []) s6 = R by rw [← HR3.out, hp]; rfl)
          obtain ⟨g3, h3, v, rfl, hv⟩ := hr
          obtain ⟨k', nt', b1, b2, b3, b4, b5, m1, m2, m3, m4, m5, d1, d2, d3, d4, d5, rfl, hd⟩ := hv.form
          have hB3 := HB.out.drew.call g3 h3 hAl
          have hs3 : w6.heap.size ≤ w3.heap.size := g3.size
          have hc3 : CdAt w3 (KS w bx) [.int .i64 k, .bool nt, .slice a1 n1 c1, .slice a2 n2 c2, .slice a3 n3 c3, .slice a4 n4 c4, .slice a5 n5 c5] c' := HK.out.kept fun g' hg' hl => g3.block g' hl fun e => by have := Option.some.inj e; have := hg'.1; omega
          have hd3 : CdAt w3 (KS w bx) [.int .i64 k', .bool nt', .slice b1 m1 d1, .slice b2 m2 d2, .slice b3 m3 d3, .slice b4 m4 d4, .slice b5 m5 d5] d := hd.mono fun g' hg' _ => by have hg' : w6.heap.size ≤ g' := hg'; exact ⟨by omega, by omega⟩
          have hK4 := kids_newS w3 (KS w bx) [[.int .i64 k, .bool nt, .slice a1 n1 c1, .slice a2 n2 c2, .slice a3 n3 c3, .slice a4 n4 c4, .slice a5 n5 c5], [.int .i64 k', .bool nt', .slice b1 m1 d1, .slice b2 m2 d2, .slice b3 m3 d3, .slice b4 m4 d4, .slice b5 m5 d5]] [c', d] #[.int .i64 k, .bool nt, .slice a1 n1 c1, .slice a2 n2 c2, .slice a3 n3 c3, .slice a4 n4 c4, .slice a5 n5 c5, .int .i64 k', .bool nt', .slice b1 m1 d1, .slice b2 m2 d2, .slice b3 m3 d3, .slice b4 m4 d4, .slice b5 m5 d5] rfl (fun i cs c2 e1 e2 => by
            match i, e1, e2 with
            | 0, e1, e2 => cases e1; cases e2; exact hc3
            | 1, e1, e2 => cases e1; cases e2; exact hd3) ⟨by omega, by omega⟩ rfl rfl (by simp) (by simp)
          have hb4 : Below w3.heap.size w3 (w3.alloc (.cells #[.int .i64 k, .bool nt, .slice a1 n1 c1, .slice a2 n2 c2, .slice a3 n3 c3, .slice a4 n4 c4, .slice a5 n5 c5, .int .i64 k', .bool nt', .slice b1 m1 d1, .slice b2 m2 d2, .slice b3 m3 d3, .slice b4 m4 d4, .slice b5 m5 d5] 28)) := (Below.refl _ _).alloc (Nat.le_refl _) _
          have hB4 := hB3.below hb4
          obtain ⟨w4, hw4⟩ : ∃ w4, w4 = w3.alloc (.cells #[.int .i64 k, .bool nt, .slice a1 n1 c1, .slice a2 n2 c2, .slice a3 n3 c3, .slice a4 n4 c4, .slice a5 n5 c5, .int .i64 k', .bool nt', .slice b1 m1 d1, .slice b2 m2 d2, .slice b3 m3 d3, .slice b4 m4 d4, .slice b5 m5 d5] 28) := ⟨_, rfl⟩
          rw [← hw4] at hB4 hK4
          have hC3 : BxC7 bx (.int .i64 k) (.bool nt) (.slice a1 n1 c1) (.slice a2 n2 c2) (.slice a3 n3 c3) (.slice a4 n4 c4) (.slice a5 n5 c5) w3 := bxc7 hB3.box
          have hC4 : BxC7 bx (.int .i64 k) (.bool nt) (.slice a1 n1 c1) (.slice a2 n2 c2) (.slice a3 n3 c3) (.slice a4 n4 c4) (.slice a5 n5 c5) (w3.alloc (.cells #[.int .i64 k, .bool nt, .slice a1 n1 c1, .slice a2 n2 c2, .slice a3 n3 c3, .slice a4 n4 c4, .slice a5 n5 c5, .int .i64 k', .bool nt', .slice b1 m1 d1, .slice b2 m2 d2, .slice b3 m3 d3, .slice b4 m4 d4, .slice b5 m5 d5] 28)) := by rw [← hw4]; exact bxc7 hB4.box
          have HW4 := hide' hw4
          have HB4 := hide' hB4
          have HK4 := hide' hK4
          obtain ⟨r0, r1, r2, r3, r4, r5, r6⟩ := cells7 hB4.box
          obtain ⟨f0, f1, f2, f3, f4, f5, f6⟩ := fz7 hB4.box
          clear hB3 hB4 hK4 g3 h3 hd hv hb4 hp hc3 hd3 HB HK hw4
          dsimp only
          refine ⟨hC3, ?_⟩
          refine wpAnyX_one (i := 4) (by kernel_rfl) (wpOp_wanted rfl (by rfl) ?_)
          go_simp
          rw [← HW4.out] at hC4 ⊢
          refine wpAnyX_one (i := 5) (by kernel_rfl) (wpOp_wanted rfl (by rfl) ?_)
          go_simp
          refine wpAnyX_one (i := 6) (by kernel_rfl) (wpOp_wanted rfl (by rfl) ?_)
          go_simp
          refine wpAnyX_done (by kernel_rfl) ?_ _
          clear hC3 hC4 r0 r1 r2 r3 r4 r5 r6 f0 f1 f2 f3 f4 f5 f6
          have hB5 := HB4.out.set7 (.int .i64 3) (.bool false) (.slice none 0 0) (.slice none 0 0) (.slice none 0 0) (.slice (some ⟨w3.heap.size, 0, none⟩) 2 2) (.slice none 0 0)
          have hK5 : CdAt (Go.Proofs.YtcemlhfodpelaaaGreatDoor.set7 w4 bx (.int .i64 3) (.bool false) (.slice none 0 0) (.slice none 0 0) (.slice none 0 0) (.slice (some ⟨w3.heap.size, 0, none⟩) 2 2) (.slice none 0 0)) (KS w bx) [.int .i64 (3 : Nat), .bool false, .slice none 0 0, .slice none 0 0, .slice none 0 0, .slice (some ⟨w3.heap.size, 0, none⟩) 2 2, .slice none 0 0] (.mk 3 false [] [] [] [c', d] []) := (HK4.out.cmd 3 false).kept fun g' hg' hl => (set7_grown w4 bx _ _ _ _ _ _ _).block g' hl fun e => hg'.2 (Option.some.inj e)
          have HB5 := hide' hB5
          have HK5 := hide' hK5
          clear hB5 hK5 HB4 HK4
          go_wp2_with fail
          go_roundg gk'
          case rel => exact ⟨by omega, s6, .mk 3 false [] [] [] [c', d] [], 3, false, none, none, none, some ⟨w3.heap.size, 0, none⟩, none, 0, 0, 0, 2, 0, 0, 0, 0, 2, 0, HB5.out, HK5.out, HR4.out⟩
          case measure => omega
    · have nn1 : ¬ tt = [124, 124] := fun e => hany (.inl e)
      have nn2 : ¬ tt = [38, 38] := fun e => hany (.inr e)
      have nn3 : (tt == [124, 124]) = false := beq_eq_false_iff_ne.2 nn1
      have nn4 : (tt == [38, 38]) = false := beq_eq_false_iff_ne.2 nn2
      obtain rfl : R = .ok c' s4 := by rw [← HR2.out, HT.out, if_neg nn1, if_neg nn2]
      have HE := hide' (prr_end hB5.gr hB5.ps hB5.res (hK5.mono fun g' hg' _ => hg'.1))
      obtain ⟨o0, o1, o2, o3, o4, o5, o6⟩ := cells7 hB5.box
      obtain ⟨r0, r1, r2, r3, r4, r5, r6⟩ := cells7 hB5.res
      obtain ⟨f0, f1, f2, f3, f4, f5, f6⟩ := fz7 hB5.res
      clear hB5 hK5 hany nn1 nn2 HR2 HT
      dsimp only
      go_wp2
      obtain ⟨hV, hbk⟩ := HE.out _ rfl
      obtain ⟨d0, d1, d2, d3, d4, d5, d6⟩ := cells7 hbk
      refine bodyPost_ret (v := .agg #[.int .i64 k, .bool nt, .slice a1 n1 c1, .slice a2 n2 c2, .slice a3 n3 c3, .slice a4 n4 c4, .slice a5 n5 c5]) (by simp [results, Tryz.results84, go_sem, d0, d1, d2, d3, d4, d5, d6]) rfl ?_
      exact hV
end Go.Proofs.YtcemlhfodpelaaaGreatDoor
