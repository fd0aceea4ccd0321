/- The bodies of loops; while and until. -/
import Derived.Test.YtcemlhfodpelaaaGreatDoorZk
import Derived.Test.YtcemlhfodpelaaaGreatDoorZf
namespace Go.Proofs.YtcemlhfodpelaaaGreatDoor
open Go.RowKit

set_option maxHeartbeats 2000000 in
theorem do_step {x : Cx} {n : Nat} (hL : ∀ w s, PsAt w x s → listP n s ≠ .out → Calls Tryz.prog 53 #[ptr x.A] w (PrR x w (listP n s) (CmdV w.heap.size))) (w : World) (s : PS) (h : PsAt w x s) (hne : doP (n + 1) s ≠ .out) : Calls Tryz.prog 55 #[ptr x.A] w (PrR x w (doP (n + 1) s) (CmdV w.heap.size)) := by
  have hAl := h.lt
  obtain ⟨W, hW, h0, g0, z0, s0⟩ := res_laid h
  have HW := hide' hW
  obtain ⟨R, hR⟩ : ∃ R, doP (n + 1) s = R := ⟨_, rfl⟩
  rw [hR] at hne ⊢
  rw [doP] at hR
  have HR := hide' (And.intro hR hne)
  clear hR hne h hW
  by_cases hd : tx s.ts = [100, 111]
  · have q := want_yes h0 [100, 111] (by simp) hd
    have HR2 := hide' (show (andT (listP n s.nx) fun c s2 => andT (wantP [100, 111, 110, 101] s2) fun _ s3 => .ok c s3) = R by rw [← HR.out.1]; simp [andT, wantP, hd])
    have HNo := hide' (show listP n s.nx ≠ .out from fun e => HR.out.2 (by rw [← HR2.out, e]; rfl))
    have HH := hide' (And.intro g0 (And.intro z0 s0))
    clear h0 g0 z0 s0 hd
    go_enter Tryz.func55, Tryz.ntmps55
    go_wp2_with fail
    rw [← HW.out]
    refine q.mono ?_
    rintro e w1 ⟨rfl, h1, g1⟩
    clear q
    obtain ⟨g0, z0, s0⟩ := HH.out
    have z1 := g1.blk (by omega) z0
    have hs1 := g1.size
    have q := hL w1 s.nx h1 HNo.out
    have HK := hide' (And.intro (g0.trans g1) z1)
    clear h1 g1 g0 z0 z1 HH
    dsimp only
    go_wp2_with fail
    refine q.mono ?_
    rintro e w2 hr
    clear q
    cases hp : listP n s.nx with
    | out => exact absurd hp HNo.out
    | bad =>
      rw [hp] at hr
      obtain rfl : R = .bad := by rw [← HR2.out, hp]; rfl
      obtain ⟨g2, b, p, rfl, hb⟩ := hr
      exact ⟨rfl, HK.out.1.trans g2, b, p, rfl, hb⟩
    | ok c s2 =>
      rw [hp] at hr
      obtain ⟨g2, h2, v, rfl, hv⟩ := hr
      obtain ⟨k, nt, a1, a2, a3, a4, a5, n1, n2, n3, n4, n5, c1, c2, c3, c4, c5, rfl, hc⟩ := hv.form
      obtain ⟨gg, z1⟩ := HK.out
      have z2 := g2.blk (by omega) z1
      have hs2 := g2.size
      obtain ⟨w3, hw3⟩ : ∃ w3, w3 = w2.alloc (.cells #[.int .i64 k, .bool nt, .slice a1 n1 c1, .slice a2 n2 c2, .slice a3 n3 c3, .slice a4 n4 c4, .slice a5 n5 c5] 28) := ⟨_, rfl⟩
      have hb3 : Below w2.heap.size w2 w3 := by rw [hw3]; exact (Below.refl _ _).alloc (Nat.le_refl _) _
      have zb : w3.heap[w2.heap.size]? = some (.cells #[.int .i64 k, .bool nt, .slice a1 n1 c1, .slice a2 n2 c2, .slice a3 n3 c3, .slice a4 n4 c4, .slice a5 n5 c5] 28 (0, 0)) := by rw [hw3]; exact heap_alloc_new w2 _
      have HB := hide' (show BoxAt x w w3 s2 w2.heap.size #[.int .i64 k, .bool nt, .slice a1 n1 c1, .slice a2 n2 c2, .slice a3 n3 c3, .slice a4 n4 c4, .slice a5 n5 c5] from ⟨h2.below hb3, (gg.trans g2).trans (Gr.of_below hb3), (hb3.block _ (lt_of_block z2)).trans z2, zb, by omega⟩)
      have HC := hide' (show CdAt w3 (fun g => w.heap.size + 1 ≤ g) [.int .i64 k, .bool nt, .slice a1 n1 c1, .slice a2 n2 c2, .slice a3 n3 c3, .slice a4 n4 c4, .slice a5 n5 c5] c from (hc.kept fun g _ hl => hb3.block g hl).mono fun g hg _ => by omega)
      have HW3 := hide' hw3
      clear hb3 zb hw3 h2 g2 gg z1 z2 hc hv HK
      by_cases hwt : tx s2.ts = [100, 111, 110, 101]
      · have q := want_yes HB.out.ps [100, 111, 110, 101] (by simp) hwt
        obtain rfl : R = .ok c s2.nx := by rw [← HR2.out, hp]; simp [andT, wantP, hwt]
        clear hp hwt
        dsimp only
        go_wp2_with fail
        rw [← HW3.out]
        refine q.mono ?_
        rintro e w4 ⟨rfl, h4, g4⟩
        clear q
        have hB4 := HB.out.call g4 h4 hAl
        have hC4 : CdAt w4 (fun g => w.heap.size + 1 ≤ g) [.int .i64 k, .bool nt, .slice a1 n1 c1, .slice a2 n2 c2, .slice a3 n3 c3, .slice a4 n4 c4, .slice a5 n5 c5] c := HC.out.kept fun g hg hl => g4.block g hl fun e => by have := Option.some.inj e; omega
        have HE := hide' (prr_end hB4.gr hB4.ps hB4.res hC4)
        obtain ⟨o0, o1, o2, o3, o4, o5, o6⟩ := cells7 hB4.box
        obtain ⟨r0, r1, r2, r3, r4, r5, r6⟩ := cells7 hB4.res
        obtain ⟨f0, f1, f2, f3, f4, f5, f6⟩ := fz7 hB4.res
        clear hB4 hC4 h4 g4 HB HC
        dsimp only
        go_wp2
        obtain ⟨hV, hbk⟩ := HE.out _ rfl
        obtain ⟨d0, d1, d2, d3, d4, d5, d6⟩ := cells7 hbk
        refine bodyPost_ret (v := .agg #[.int .i64 k, .bool nt, .slice a1 n1 c1, .slice a2 n2 c2, .slice a3 n3 c3, .slice a4 n4 c4, .slice a5 n5 c5]) (by simp [results, Tryz.results55, go_sem, d0, d1, d2, d3, d4, d5, d6]) rfl ?_
        exact hV
      · have q := want_no HB.out.ps [100, 111, 110, 101] hwt
        obtain rfl : R = .bad := by rw [← HR2.out, hp]; simp [andT, wantP, hwt]
        clear hp hwt HC
        dsimp only
        go_wp2_with fail
        rw [← HW3.out]
        refine q.mono ?_
        rintro e w4 ⟨g4, b, p, rfl, hb⟩
        exact ⟨rfl, HB.out.gr.trans g4, b, p, rfl, hb⟩
  · have q := want_no h0 [100, 111] hd
    obtain rfl : R = .bad := by rw [← HR.out.1]; simp [andT, wantP, hd]
    have HH := hide' g0
    clear h0 g0 z0 s0 hd
    go_enter Tryz.func55, Tryz.ntmps55
    go_wp2_with fail
    rw [← HW.out]
    refine q.mono ?_
    rintro e w1 ⟨g1, b, p, rfl, hb⟩
    exact ⟨rfl, HH.out.trans g1, b, p, rfl, hb⟩
set_option maxRecDepth 100000 in
set_option maxHeartbeats 4000000 in
theorem while_step {x : Cx} {n : Nat} (hL : ∀ w s, PsAt w x s → listP n s ≠ .out → Calls Tryz.prog 53 #[ptr x.A] w (PrR x w (listP n s) (CmdV w.heap.size))) (hD : ∀ w s, PsAt w x s → doP n s ≠ .out → Calls Tryz.prog 55 #[ptr x.A] w (PrR x w (doP n s) (CmdV w.heap.size))) (w : World) (s : PS) (h : PsAt w x s) (hne : whileP (n + 1) false s ≠ .out) : Calls Tryz.prog 33 #[ptr x.A] w (PrR x w (whileP (n + 1) false s) (CmdV w.heap.size)) := by
  have hAl := h.lt
  obtain ⟨W, hW, h0, g0, z0, s0⟩ := res_laid h
  have HW := hide' hW
  obtain ⟨R, hR⟩ : ∃ R, whileP (n + 1) false s = R := ⟨_, rfl⟩
  rw [hR] at hne ⊢
  rw [whileP] at hR
  have HR := hide' (And.intro hR hne)
  have q := hL W s h0 (fun e => hne (by rw [← hR, e]; rfl))
  have HH := hide' (And.intro g0 (And.intro z0 s0))
  clear hW h0 g0 z0 s0 h hR hne
  go_enter Tryz.func33, Tryz.ntmps33
  go_wp2_with fail
  rw [← HW.out]
  refine q.mono ?_
  rintro e w1 hr
  clear q
  obtain ⟨g0, z0, s0⟩ := HH.out
  cases hp : listP n s with
  | out => exact absurd (by rw [← HR.out.1, hp]; rfl) HR.out.2
  | bad =>
    rw [hp] at hr
    obtain rfl : R = .bad := by rw [← HR.out.1, hp]; rfl
    obtain ⟨g3, b, p, rfl, hb⟩ := hr
    exact ⟨rfl, g0.trans g3, b, p, rfl, hb⟩
  | ok c0 s1 =>
    rw [hp] at hr
    have HR2 := hide' (show (andT (doP n s1) fun c s2 => .ok (.mk 7 false [] [] [] [c0, c] []) s2) = R by rw [← HR.out.1, hp]; rfl)
    obtain ⟨g1, h1, v, rfl, hv⟩ := hr
    obtain ⟨k, nt, a1, a2, a3, a4, a5, n1, n2, n3, n4, n5, c1, c2, c3, c4, c5, rfl, hc⟩ := hv.form
    have z1 := g1.blk (by omega) z0
    have hs1 := g1.size
    have hk1 := kids_new w1 (w.heap.size + 1) [[.int .i64 k, .bool nt, .slice a1 n1 c1, .slice a2 n2 c2, .slice a3 n3 c3, .slice a4 n4 c4, .slice a5 n5 c5]] [c0] #[.int .i64 k, .bool nt, .slice a1 n1 c1, .slice a2 n2 c2, .slice a3 n3 c3, .slice a4 n4 c4, .slice a5 n5 c5] rfl (fun i cs c' e1 e2 => by
      match i, e1, e2 with
      | 0, e1, e2 => cases e1; cases e2; exact hc.mono fun g hg _ => by omega) (by omega) rfl rfl (by simp) (by simp)
    obtain ⟨w2, hw2⟩ : ∃ w2, w2 = (w1.alloc (.cells #[.int .i64 k, .bool nt, .slice a1 n1 c1, .slice a2 n2 c2, .slice a3 n3 c3, .slice a4 n4 c4, .slice a5 n5 c5] 28)).alloc (.cells #[.int .i64 7, .bool false, .slice none 0 0, .slice none 0 0, .slice none 0 0, .slice (some ⟨w1.heap.size, 0, none⟩) 1 1, .slice none 0 0] 28) := ⟨_, rfl⟩
    have hsA : (w1.alloc (.cells #[.int .i64 k, .bool nt, .slice a1 n1 c1, .slice a2 n2 c2, .slice a3 n3 c3, .slice a4 n4 c4, .slice a5 n5 c5] 28)).heap.size = w1.heap.size + 1 := by simp
    have hb1 : Below w1.heap.size w1 (w1.alloc (.cells #[.int .i64 k, .bool nt, .slice a1 n1 c1, .slice a2 n2 c2, .slice a3 n3 c3, .slice a4 n4 c4, .slice a5 n5 c5] 28)) := (Below.refl _ _).alloc (Nat.le_refl _) _
    have hb2' : Below (w1.alloc (.cells #[.int .i64 k, .bool nt, .slice a1 n1 c1, .slice a2 n2 c2, .slice a3 n3 c3, .slice a4 n4 c4, .slice a5 n5 c5] 28)).heap.size (w1.alloc (.cells #[.int .i64 k, .bool nt, .slice a1 n1 c1, .slice a2 n2 c2, .slice a3 n3 c3, .slice a4 n4 c4, .slice a5 n5 c5] 28)) w2 := by rw [hw2]; exact (Below.refl _ _).alloc (Nat.le_refl _) _
    have hb2 : Below w1.heap.size w1 w2 := hb1.trans (hb2'.mono (by simp))
    have hK0 : KidsS w2 (KS w (w1.heap.size + 1)) (.slice (some ⟨w1.heap.size, 0, none⟩) 1 1) [[.int .i64 k, .bool nt, .slice a1 n1 c1, .slice a2 n2 c2, .slice a3 n3 c3, .slice a4 n4 c4, .slice a5 n5 c5]] [c0] := (hk1.mono fun g hg hl => ⟨hg, by omega⟩).kept fun g _ hg => hb2'.block g hg
    have zb : w2.heap[w1.heap.size + 1]? = some (.cells #[.int .i64 7, .bool false, .slice none 0 0, .slice none 0 0, .slice none 0 0, .slice (some ⟨w1.heap.size, 0, none⟩) 1 1, .slice none 0 0] 28 (0, 0)) := by
      rw [hw2]
      have := heap_alloc_new (w1.alloc (.cells #[.int .i64 k, .bool nt, .slice a1 n1 c1, .slice a2 n2 c2, .slice a3 n3 c3, .slice a4 n4 c4, .slice a5 n5 c5] 28)) (.cells #[.int .i64 7, .bool false, .slice none 0 0, .slice none 0 0, .slice none 0 0, .slice (some ⟨w1.heap.size, 0, none⟩) 1 1, .slice none 0 0] 28)
      rwa [hsA] at this
    have hB0 : BoxAt x w w2 s1 (w1.heap.size + 1) #[.int .i64 7, .bool false, .slice none 0 0, .slice none 0 0, .slice none 0 0, .slice (some ⟨w1.heap.size, 0, none⟩) 1 1, .slice none 0 0] := ⟨h1.below hb2, (g0.trans g1).trans (Gr.of_below hb2), (hb2.block _ (lt_of_block z1)).trans z1, zb, by omega⟩
    obtain ⟨ka, kn, kcap, kc, hB, hK, hkn, hk9⟩ : ∃ ka kn kcap kc, BoxAt x w w2 s1 (w1.heap.size + 1) #[.int .i64 7, .bool false, .slice none 0 0, .slice none 0 0, .slice none 0 0, .slice ka kn kcap, .slice none 0 0] ∧ KidsS w2 (KS w (w1.heap.size + 1)) (.slice ka kn kcap) kc [c0] ∧ kn = [c0].length ∧ kn ≤ 9 := ⟨_, 1, 1, _, hB0, hK0, rfl, by omega⟩
    have HB := hide' hB
    have HK := hide' hK
    have HKn := hide' hkn
    obtain ⟨bx, hbx⟩ : ∃ bx, bx = w1.heap.size + 1 := ⟨_, rfl⟩
    have hbl : w.heap.size < bx := by omega
    have HW2 := hide' hw2
    have hlW : bx < w2.heap.size := by rw [hbx]; exact lt_of_block zb
    clear hk1 hsA hb1 hb2' hb2 hw2 h1 g1 g0 z0 z1 HH zb hc hv hp hB hK hkn hB0 hK0
    rw [← hbx] at HB HK
    have HNo := hide' (show doP n s1 ≠ .out from fun e => HR.out.2 (by rw [← HR2.out, e]; rfl))
    have q := hD w2.drew s1 HB.out.ps.drew HNo.out
    have hlW : bx < w2.drew.heap.size := hlW
    dsimp only
    go_upto_region 2 with fail
    rw [← HW2.out]
    rw [← hbx]
    clear hbx
    refine wp_region_classX [7] (C := BxC bx 5 (.slice ka kn kcap)) (by kernel_rfl) ?_
    have hC : BxC bx 5 (.slice ka kn kcap) w2.drew := ⟨by rw [show w2.drew.cell? ⟨bx, 5, none⟩ = w2.cell? ⟨bx, 5, none⟩ from rfl, Lib.cell_of_heap HB.out.box]; rfl⟩
    (refine wpAnyX_take (i := 0) (v := ?_) hC rfl (by kernel_rfl) (by kernel_rfl) (by kernel_rfl) (by kernel_rfl) (fun _ _ _ h => h) (Or.inl ⟨by kernel_rfl, ?_⟩) ?_; rotate_left; (intro w hc; have k3 := hc.c; clear hc; go_simp; try with_reducible rfl))
    (refine wpAnyX_take (i := 1) (v := ?_) hC rfl (by kernel_rfl) (by kernel_rfl) (by kernel_rfl) (by kernel_rfl) (fun _ _ _ h => h) (Or.inl ⟨by kernel_rfl, ?_⟩) ?_; rotate_left; (intro w hc; have k3 := hc.c; clear hc; go_simp; try with_reducible rfl))
    (refine wpAnyX_take (i := 2) (v := ?_) hC rfl (by kernel_rfl) (by kernel_rfl) (by kernel_rfl) (by kernel_rfl) (fun _ _ _ h => h) (Or.inl ⟨by kernel_rfl, ?_⟩) ?_; rotate_left; (intro w hc; have k3 := hc.c; clear hc; go_simp; try with_reducible rfl))
    refine wpAnyX_one (i := 3) (by kernel_rfl) (wpOp_wanted rfl (by rfl) ?_)
    go_simp
    refine q.mono ?_
    rintro e w3 hr
    clear q hC
    cases hp : doP n s1 with
    | out => exact absurd hp HNo.out
    | bad =>
      rw [hp] at hr
      obtain rfl : R = .bad := by rw [← HR2.out, hp]; rfl
      obtain ⟨g3, b, p, rfl, hb⟩ := hr
      exact ⟨rfl, HB.out.gr.trans ((Gr.drew x _).trans g3), b, p, rfl, hb⟩
    | ok c s3 =>
      rw [hp] at hr
      obtain rfl : R = .ok (.mk 7 false [] [] [] [c0, c] []) s3 := by rw [← HR2.out, hp]; rfl
      obtain ⟨g3, h3, v, rfl, hv⟩ := hr
      obtain ⟨k, nt, a1, a2, a3, a4, a5, n1, n2, n3, n4, n5, c1, c2, c3, c4, c5, rfl, hc⟩ := hv.form
      have hB3 := HB.out.drew.call g3 h3 hAl
      have hs3 := g3.size
      have hb4 : Below w3.heap.size w3 (w3.alloc (.cells #[.int .i64 k, .bool nt, .slice a1 n1 c1, .slice a2 n2 c2, .slice a3 n3 c3, .slice a4 n4 c4, .slice a5 n5 c5] 28)) := (Below.refl _ _).alloc (Nat.le_refl _) _
      have hB4 := hB3.below hb4
      have hC3 : BxC bx 5 (.slice ka kn kcap) w3 := ⟨by rw [Lib.cell_of_heap hB3.box]; rfl⟩
      have hC4 : BxC bx 5 (.slice ka kn kcap) (w3.alloc (.cells #[.int .i64 k, .bool nt, .slice a1 n1 c1, .slice a2 n2 c2, .slice a3 n3 c3, .slice a4 n4 c4, .slice a5 n5 c5] 28)) := ⟨by rw [Lib.cell_of_heap hB4.box]; rfl⟩
      have hK4 : KidsS (w3.alloc (.cells #[.int .i64 k, .bool nt, .slice a1 n1 c1, .slice a2 n2 c2, .slice a3 n3 c3, .slice a4 n4 c4, .slice a5 n5 c5] 28)) (KS w bx) (.slice ka kn kcap) kc [c0] := (HK.out.kept fun g' hg' hl => g3.block g' hl fun e => by have := Option.some.inj e; have := hg'.1; omega).kept fun g' _ hl => hb4.block g' hl
      have hown := hK4.row.own
      rw [← HKn.out] at hown
      have hnew : ∀ (j : Nat) u, ([.int .i64 k, .bool nt, .slice a1 n1 c1, .slice a2 n2 c2, .slice a3 n3 c3, .slice a4 n4 c4, .slice a5 n5 c5] : List Value)[j]? = some u → (w3.alloc (.cells #[.int .i64 k, .bool nt, .slice a1 n1 c1, .slice a2 n2 c2, .slice a3 n3 c3, .slice a4 n4 c4, .slice a5 n5 c5] 28)).cell? ((⟨w3.heap.size, 0, none⟩ : Addr).add j) = some u := fun j u hj => by rw [Addr.add_lit, Nat.zero_add, Lib.cell_of_heap (heap_alloc_new w3 _)]; simpa using hj
      have HJ := hide' (And.intro hB3 (And.intro g3 hc))
      clear hB3 hB4 hK4 g3 h3 hc hv hb4 hp
      dsimp only
      refine ⟨hC3, ?_⟩
      refine wpAnyX_one (i := 4) (by kernel_rfl) (wpOp_wanted rfl (by rfl) ?_)
      go_simp
      obtain ⟨inf, hi, hz0, hz1, hz2⟩ := info_parts infoCmd
      refine wpAnyX_one (i := 5) (by kernel_rfl) (wpOp_wanted rfl (by rfl) ?_)
      refine wp_append_lies _ _ _ 25 rfl 0 28 inf _ 7 136 Tryz.underlying25 hi hz0 hz1 hz2 rfl (by decide) (.slice ka kn kcap) kn _ rfl hown ⟨w3.heap.size, 0, none⟩ 1 1 [.int .i64 k, .bool nt, .slice a1 n1 c1, .slice a2 n2 c2, .slice a3 n3 c3, .slice a4 n4 c4, .slice a5 n5 c5] rfl rfl hnew (by simp [Value.oneCell']) (by decide) (by unfold maxLen; omega) (by omega) (Nat.zero_le _) _ rfl ?_
      intro g cap w4 ho hg hat _
      clear hi hz0 hz1 hz2 hown hnew hC3 hC4
      obtain ⟨hB3, g3, hc⟩ := HJ.out
      rw [HKn.out] at ho
      obtain ⟨hB4, hB5, hK5⟩ := push_kid (w2 := w2.drew) hB3 (HK.out.kept fun _ _ _ => rfl) g3 hAl hlW hc ho hg hat
      have e5 : w4.cell? ⟨bx, 5, none⟩ = some (.slice ka kn kcap) := by rw [Lib.cell_of_heap hB4.box]; rfl
      have f5 := Lib.frozen_of_heap hB4.box 5
      rw [← HKn.out] at hB5 hK5
      have hC5 : BxC bx 5 (.slice ka kn kcap) w4 := ⟨e5⟩
      have HB5 := hide' hB5
      have HK5 := hide' hK5
      clear hB3 hB4 hB5 hK5 g3 hc ho hg hat HJ HB HK
      refine ⟨fun _ => hC5, ?_⟩
      refine wpAnyX_one (i := 6) (by kernel_rfl) (wpOp_wanted rfl (by rfl) ?_)
      go_simp
      refine wpAnyX_one (i := 7) (by kernel_rfl) (wpOp_wanted rfl (by rfl) ?_)
      go_simp
      refine wpAnyX_done (by kernel_rfl) ?_ _
      clear hC5 e5 f5
      obtain ⟨w5, hw5⟩ : ∃ w5, w5 = w4.setCell ⟨bx, 5, none⟩ (.slice (some ⟨g, 0, none⟩) (kn + 1) cap) := ⟨_, rfl⟩
      rw [← hw5] at HB5 HK5 ⊢
      clear hw5
      have hB5 := HB5.out
      have HE := hide' (prr_end (v0 := .int .i64 7) (c := .mk 7 false [] [] [] [c0, c] []) hB5.gr hB5.ps hB5.res ((HK5.out.mono (S' := fun g => w.heap.size + 1 ≤ g) fun g' hg' _ => hg'.1).cmd 7 false))
      obtain ⟨o0, o1, o2, o3, o4, o5, o6⟩ := cells7 hB5.box
      obtain ⟨r0, r1, r2, r3, r4, r5, r6⟩ := cells7 hB5.res
      obtain ⟨f0, f1, f2, f3, f4, f5, f6⟩ := fz7 hB5.res
      clear hB5 HB5 HK5 HKn
      go_wp2
      obtain ⟨hV, hbk⟩ := HE.out _ rfl
      obtain ⟨d0, d1, d2, d3, d4, d5, d6⟩ := cells7 hbk
      refine bodyPost_ret (v := .agg #[.int .i64 7, .bool false, .slice none 0 0, .slice none 0 0, .slice none 0 0, .slice (some ⟨g, 0, none⟩) (kn + 1) cap, .slice none 0 0]) (by simp [results, Tryz.results33, go_sem, d0, d1, d2, d3, d4, d5, d6]) rfl ?_
      exact hV
/-- the command, turned round -/
def setN : Cd → Cd
  | .mk k _ ag ws rs ks ar => .mk k true ag ws rs ks ar
theorem cd_not {w : World} {S : Nat → Prop} {k : Nat} {nt : Bool} {av wv rv kv mv : Value} {c : Cd} (h : CdAt w S [.int .i64 k, .bool nt, av, wv, rv, kv, mv] c) : CdAt w S [.int .i64 k, .bool true, av, wv, rv, kv, mv] (setN c) := by
  cases h with
  | intro k nt ag ws rs ks ar _ _ _ _ _ kc ac h1 h2 h3 h4 h5 h6 h7 h8 h9 h10 => exact .intro k true ag ws rs ks ar _ _ _ _ _ kc ac h1 h2 h3 h4 h5 h6 h7 h8 h9 h10
theorem while_not (n : Nat) (s : PS) : whileP n true s = andT (whileP n false s) fun c s' => .ok (setN c) s' := by
  cases n with
  | zero => rfl
  | succ n =>
    rw [whileP, whileP]
    cases listP n s with
    | out => rfl
    | bad => rfl
    | ok a s1 =>
      simp only [andT]
      cases doP n s1 <;> rfl
set_option maxHeartbeats 4000000 in
theorem until_step {x : Cx} {n : Nat} (hWh : ∀ w s, PsAt w x s → whileP n false s ≠ .out → Calls Tryz.prog 33 #[ptr x.A] w (PrR x w (whileP n false s) (CmdV w.heap.size))) (w : World) (s : PS) (h : PsAt w x s) (hne : whileP n true s ≠ .out) : Calls Tryz.prog 34 #[ptr x.A] w (PrR x w (whileP n true s) (CmdV w.heap.size)) := by
  have hAl := h.lt
  obtain ⟨W, hW, h0, g0, z0, s0⟩ := res_laid h
  have HW := hide' hW
  obtain ⟨R, hR⟩ : ∃ R, whileP n true s = R := ⟨_, rfl⟩
  rw [hR] at hne ⊢
  rw [while_not] at hR
  have HR := hide' (And.intro hR hne)
  have q := hWh W s h0 (fun e => hne (by rw [← hR, e]; rfl))
  have HH := hide' (And.intro g0 (And.intro z0 s0))
  clear hW h0 g0 z0 s0 h hR hne
  go_enter Tryz.func34, Tryz.ntmps34
  go_wp2_with fail
  rw [← HW.out]
  refine q.mono ?_
  rintro e w1 hr
  clear q
  obtain ⟨g0, z0, s0⟩ := HH.out
  cases hp : whileP n false s with
  | out => exact absurd (by rw [← HR.out.1, hp]; rfl) HR.out.2
  | bad =>
    rw [hp] at hr
    obtain rfl : R = .bad := by rw [← HR.out.1, hp]; rfl
    obtain ⟨g3, b, p, rfl, hb⟩ := hr
    exact ⟨rfl, g0.trans g3, b, p, rfl, hb⟩
  | ok c s1 =>
    rw [hp] at hr
    obtain rfl : R = .ok (setN c) s1 := by rw [← HR.out.1, hp]; rfl
    obtain ⟨g1, h1, v, rfl, hv⟩ := hr
    obtain ⟨k, nt, a1, a2, a3, a4, a5, n1, n2, n3, n4, n5, c1, c2, c3, c4, c5, rfl, hc⟩ := hv.form
    have z1 := g1.blk (by omega) z0
    have hs1 := g1.size
    obtain ⟨w2, hw2⟩ : ∃ w2, w2 = w1.alloc (.cells #[.int .i64 k, .bool nt, .slice a1 n1 c1, .slice a2 n2 c2, .slice a3 n3 c3, .slice a4 n4 c4, .slice a5 n5 c5] 28) := ⟨_, rfl⟩
    have hb2 : Below w1.heap.size w1 w2 := by rw [hw2]; exact (Below.refl _ _).alloc (Nat.le_refl _) _
    have zb : w2.heap[w1.heap.size]? = some (.cells #[.int .i64 k, .bool nt, .slice a1 n1 c1, .slice a2 n2 c2, .slice a3 n3 c3, .slice a4 n4 c4, .slice a5 n5 c5] 28 (0, 0)) := by rw [hw2]; exact heap_alloc_new w1 _
    have hB2 : BoxAt x w w2 s1 w1.heap.size #[.int .i64 k, .bool nt, .slice a1 n1 c1, .slice a2 n2 c2, .slice a3 n3 c3, .slice a4 n4 c4, .slice a5 n5 c5] := ⟨h1.below hb2, (g0.trans g1).trans (Gr.of_below hb2), (hb2.block _ (lt_of_block z1)).trans z1, zb, by omega⟩
    have hC2 : CdAt w2 (fun g => w.heap.size + 1 ≤ g ∧ g ≠ w1.heap.size) [.int .i64 k, .bool nt, .slice a1 n1 c1, .slice a2 n2 c2, .slice a3 n3 c3, .slice a4 n4 c4, .slice a5 n5 c5] c := (hc.mono (S' := fun g => w.heap.size + 1 ≤ g ∧ g ≠ w1.heap.size) fun g hg hl => ⟨by omega, by omega⟩).kept fun g _ hl => hb2.block g hl
    have HW2 := hide' hw2
    obtain ⟨bx, hbx⟩ : ∃ bx, bx = w1.heap.size := ⟨_, rfl⟩
    rw [← hbx] at hB2 hC2
    have HB := hide' hB2
    have HC := hide' hC2
    obtain ⟨o0, o1, o2, o3, o4, o5, o6⟩ := cells7 hB2.box
    obtain ⟨p0, p1, p2, p3, p4, p5, p6⟩ := fz7 hB2.box
    clear hb2 zb hw2 h1 g1 g0 z0 z1 hc hv HH hp hB2 hC2
    dsimp only
    go_upto_region 2 with fail
    rw [← HW2.out, ← hbx]
    clear hbx
    go_upto_region 3 with fail
    obtain ⟨w5, hw5⟩ : ∃ w5, w5 = w2.setCell ⟨bx, 1, none⟩ (.bool true) := ⟨_, rfl⟩
    rw [← hw5]
    have hB5 : BoxAt x w w5 s1 bx #[.int .i64 k, .bool true, .slice a1 n1 c1, .slice a2 n2 c2, .slice a3 n3 c3, .slice a4 n4 c4, .slice a5 n5 c5] := by rw [hw5]; exact HB.out.set 1 (.bool true)
    have hC5 : CdAt w5 (fun g => w.heap.size + 1 ≤ g) [.int .i64 k, .bool true, .slice a1 n1 c1, .slice a2 n2 c2, .slice a3 n3 c3, .slice a4 n4 c4, .slice a5 n5 c5] (setN c) := (cd_not (HC.out.kept fun g hg _ => by rw [hw5]; exact set_oth hg.2)).mono fun g hg _ => hg.1
    clear hw5 o0 o1 o2 o3 o4 o5 o6 p0 p1 p2 p3 p4 p5 p6 HB HC
    have HE := hide' (prr_end hB5.gr hB5.ps hB5.res hC5)
    obtain ⟨o0, o1, o2, o3, o4, o5, o6⟩ := cells7 hB5.box
    obtain ⟨r0, r1, r2, r3, r4, r5, r6⟩ := cells7 hB5.res
    obtain ⟨f0, f1, f2, f3, f4, f5, f6⟩ := fz7 hB5.res
    clear hB5 hC5
    go_wp2
    obtain ⟨hV, hbk⟩ := HE.out _ rfl
    obtain ⟨d0, d1, d2, d3, d4, d5, d6⟩ := cells7 hbk
    refine bodyPost_ret (v := .agg #[.int .i64 k, .bool true, .slice a1 n1 c1, .slice a2 n2 c2, .slice a3 n3 c3, .slice a4 n4 c4, .slice a5 n5 c5]) (by simp [results, Tryz.results34, go_sem, d0, d1, d2, d3, d4, d5, d6]) rfl ?_
    exact hV
end Go.Proofs.YtcemlhfodpelaaaGreatDoor
