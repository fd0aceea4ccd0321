/- pipe. -/
import Derived.Test.YtcemlhfodpelaaaGreatDoorZk
import Derived.Test.YtcemlhfodpelaaaGreatDoorZf
namespace Go.Proofs.YtcemlhfodpelaaaGreatDoor
open Go.RowKit

set_option maxRecDepth 100000 in
set_option maxHeartbeats 4000000 in
theorem pipe_step {x : Cx} {n : Nat} (hn : n ≤ 1000000) (hCm : ∀ n', n' ≤ n → ∀ w s, PsAt w x s → commandP n' s ≠ .out → Calls Tryz.prog 126 #[ptr x.A] w (PrR x w (commandP n' s) (CmdV w.heap.size))) (w : World) (s : PS) (h : PsAt w x s) (hne : pipeP (n + 1) s ≠ .out) : Calls Tryz.prog 100 #[ptr x.A] w (PrR x w (pipeP (n + 1) s) (CmdV w.heap.size)) := by
  have hAl := h.lt
  obtain ⟨W, hW, h0, g0, z0, s0⟩ := res_laid h
  have HW := hide' hW
  obtain ⟨R, hR⟩ : ∃ R, pipeP (n + 1) s = R := ⟨_, rfl⟩
  rw [hR] at hne ⊢
  rw [pipeP] at hR
  -- the ! first
  obtain ⟨ng, s1, hnt, hs1, q⟩ : ∃ ng s1, decide (tx s.ts = [33]) = ng ∧ (if tx s.ts = [33] then s.nx else s) = s1 ∧ Calls Tryz.prog 54 #[ptr x.A, .string ⟨#[33]⟩] W fun e w' => e = .returned (.bool ng) ∧ PsAt w' x s1 ∧ Gr x W w' := by
    by_cases h33 : tx s.ts = [33]
    · exact ⟨true, s.nx, by simp [h33], by simp [h33], pass_yes h0 [33] (by simp) h33⟩
    · refine ⟨false, s, by simp [h33], by simp [h33], (pass_no h0 [33] h33).mono ?_⟩
      rintro e w' ⟨rfl, m, rfl⟩
      exact ⟨rfl, h0.drewN m, Gr.drewN x W m⟩
  rw [hnt, hs1] at hR
  have HR := hide' (And.intro hR hne)
  have HH := hide' (And.intro g0 (And.intro z0 s0))
  clear hW h0 g0 z0 s0 h hR hne hnt hs1
  go_enter Tryz.func100, Tryz.ntmps100
  go_wp2_with fail
  rw [← HW.out]
  refine q.mono ?_
  rintro e w1 ⟨rfl, h1, g1⟩
  clear q
  obtain ⟨g0, z0, s0⟩ := HH.out
  have z1 := g1.blk (by omega) z0
  have hs1 := g1.size
  obtain ⟨w2, hw2⟩ : ∃ w2, w2 = w1.alloc (.cells #[.int .i64 2, .bool ng, .slice none 0 0, .slice none 0 0, .slice none 0 0, .slice none 0 0, .slice none 0 0] 28) := ⟨_, rfl⟩
  have hb2 : Below w1.heap.size w1 w2 := by rw [hw2]; exact (Below.refl _ _).alloc (Nat.le_refl _) _
  have zb : w2.heap[w1.heap.size]? = some (.cells #[.int .i64 2, .bool ng, .slice none 0 0, .slice none 0 0, .slice none 0 0, .slice none 0 0, .slice none 0 0] 28 (0, 0)) := by rw [hw2]; exact heap_alloc_new w1 _
  have HB := hide' (show BoxAt x w w2 s1 w1.heap.size #[.int .i64 2, .bool ng, .slice none 0 0, .slice none 0 0, .slice none 0 0, .slice none 0 0, .slice none 0 0] from ⟨h1.below hb2, (g0.trans g1).trans (Gr.of_below hb2), (hb2.block _ (lt_of_block z1)).trans z1, zb, by omega⟩)
  have hs2 : w2.heap.size = w1.heap.size + 1 := by rw [hw2]; simp
  have hlW : w1.heap.size < w2.drew.heap.size := by show _ < w2.heap.size; omega
  have HW2 := hide' hw2
  have HK := hide' (KidsS.nil w2 (KS w w1.heap.size))
  have HKn := hide' (show (0 : Nat) = ([] : List Cd).length from rfl)
  have HKn0 := HKn
  have HNo := hide' (show commandP n s1 ≠ .out from fun e => HR.out.2 (by rw [← HR.out.1, e]; rfl))
  have q := hCm n (Nat.le_refl _) w2.drew s1 (h1.below hb2).drew HNo.out
  clear hw2 hb2 h1 g1 g0 z0 z1 HH zb
  dsimp only
  go_upto_region 2 with fail
  rw [← HW2.out]
  refine wp_region_classX [7] (C := BxC w1.heap.size 5 (.slice none 0 0)) (by kernel_rfl) ?_
  have hC : BxC w1.heap.size 5 (.slice none 0 0) w2.drew := ⟨by rw [show w2.drew.cell? ⟨w1.heap.size, 5, none⟩ = w2.cell? ⟨w1.heap.size, 5, none⟩ from rfl, Lib.cell_of_heap HB.out.box]; rfl⟩
  (refine wpAnyX_take (i := 0) (v := ?_) hC rfl (by kernel_rfl) (by kernel_rfl) (by kernel_rfl) (by kernel_rfl) (fun _ _ _ h => h) (Or.inl ⟨by kernel_rfl, ?_⟩) ?_; rotate_left; (intro w hc; have k3 := hc.c; clear hc; go_simp; try with_reducible rfl))
  (refine wpAnyX_take (i := 1) (v := ?_) hC rfl (by kernel_rfl) (by kernel_rfl) (by kernel_rfl) (by kernel_rfl) (fun _ _ _ h => h) (Or.inl ⟨by kernel_rfl, ?_⟩) ?_; rotate_left; (intro w hc; have k3 := hc.c; clear hc; go_simp; try with_reducible rfl))
  (refine wpAnyX_take (i := 2) (v := ?_) hC rfl (by kernel_rfl) (by kernel_rfl) (by kernel_rfl) (by kernel_rfl) (fun _ _ _ h => h) (Or.inl ⟨by kernel_rfl, ?_⟩) ?_; rotate_left; (intro w hc; have k3 := hc.c; clear hc; go_simp; try with_reducible rfl))
  refine wpAnyX_one (i := 3) (by kernel_rfl) (wpOp_wanted rfl (by rfl) ?_)
  go_simp
  refine q.mono ?_
  rintro e w3 hr
  clear q hC
  cases hp : commandP n s1 with
  | out => exact absurd hp HNo.out
  | bad =>
    rw [hp] at hr
    obtain rfl : R = .bad := by rw [← HR.out.1, hp]; rfl
    obtain ⟨g3, b, p, rfl, hb⟩ := hr
    exact ⟨rfl, HB.out.gr.trans ((Gr.drew x _).trans g3), b, p, rfl, hb⟩
  | ok c s2 =>
    rw [hp] at hr
    have HR2 := hide' (show pipeL n ng [c] s2 = R by rw [← HR.out.1, hp]; rfl)
    obtain ⟨g3, h3, v, rfl, hv⟩ := hr
    obtain ⟨k, nt, a1, a2, a3, a4, a5, n1, n2, n3, n4, n5, c1, c2, c3, c4, c5, rfl, hc⟩ := hv.form
    have hB3 := HB.out.drew.call g3 h3 hAl
    have hs3 := g3.size
    have hb4 : Below w3.heap.size w3 (w3.alloc (.cells #[.int .i64 k, .bool nt, .slice a1 n1 c1, .slice a2 n2 c2, .slice a3 n3 c3, .slice a4 n4 c4, .slice a5 n5 c5] 28)) := (Below.refl _ _).alloc (Nat.le_refl _) _
    have hB4 := hB3.below hb4
    have hC3 : BxC w1.heap.size 5 (.slice none 0 0) w3 := ⟨by rw [Lib.cell_of_heap hB3.box]; rfl⟩
    have hC4 : BxC w1.heap.size 5 (.slice none 0 0) (w3.alloc (.cells #[.int .i64 k, .bool nt, .slice a1 n1 c1, .slice a2 n2 c2, .slice a3 n3 c3, .slice a4 n4 c4, .slice a5 n5 c5] 28)) := ⟨by rw [Lib.cell_of_heap hB4.box]; rfl⟩
    have hK4 : KidsS (w3.alloc (.cells #[.int .i64 k, .bool nt, .slice a1 n1 c1, .slice a2 n2 c2, .slice a3 n3 c3, .slice a4 n4 c4, .slice a5 n5 c5] 28)) (KS w w1.heap.size) (.slice none 0 0) [] [] := (HK.out.kept fun g' hg' hl => g3.block g' hl fun e => by have := Option.some.inj e; have := hg'.1; omega).kept fun g' _ hl => hb4.block g' hl
    have hown := hK4.row.own
    rw [← HKn.out] at hown
    have hnew : ∀ (j : Nat) u, ([.int .i64 k, .bool nt, .slice a1 n1 c1, .slice a2 n2 c2, .slice a3 n3 c3, .slice a4 n4 c4, .slice a5 n5 c5] : List Value)[j]? = some u → (w3.alloc (.cells #[.int .i64 k, .bool nt, .slice a1 n1 c1, .slice a2 n2 c2, .slice a3 n3 c3, .slice a4 n4 c4, .slice a5 n5 c5] 28)).cell? ((⟨w3.heap.size, 0, none⟩ : Addr).add j) = some u := fun j u hj => by rw [Addr.add_lit, Nat.zero_add, Lib.cell_of_heap (heap_alloc_new w3 _)]; simpa using hj
    have HJ := hide' (And.intro hB3 (And.intro g3 hc))
    clear hB3 hB4 hK4 g3 h3 hc hv hb4 hp
    dsimp only
    refine ⟨hC3, ?_⟩
    refine wpAnyX_one (i := 4) (by kernel_rfl) (wpOp_wanted rfl (by rfl) ?_)
    go_simp
    obtain ⟨inf, hi, hz0, hz1, hz2⟩ := info_parts infoCmd
    refine wpAnyX_one (i := 5) (by kernel_rfl) (wpOp_wanted rfl (by rfl) ?_)
    refine wp_append_lies _ _ _ 25 rfl 0 28 inf _ 7 136 Tryz.underlying25 hi hz0 hz1 hz2 rfl (by decide) (.slice none 0 0) 0 _ rfl hown ⟨w3.heap.size, 0, none⟩ 1 1 [.int .i64 k, .bool nt, .slice a1 n1 c1, .slice a2 n2 c2, .slice a3 n3 c3, .slice a4 n4 c4, .slice a5 n5 c5] rfl rfl hnew (by simp [Value.oneCell']) (by decide) (by unfold maxLen; omega) (by omega) (Nat.zero_le _) _ rfl ?_
    intro g cap w4 ho hg hat _
    clear hi hz0 hz1 hz2 hown hnew hC3 hC4
    obtain ⟨hB3, g3, hc⟩ := HJ.out
    rw [HKn.out] at ho
    obtain ⟨hB4, hB5, hK5⟩ := push_kid (w2 := w2.drew) hB3 (HK.out.kept fun _ _ _ => rfl) g3 hAl hlW hc ho hg hat
    have e5 : w4.cell? ⟨w1.heap.size, 5, none⟩ = some (.slice none 0 0) := by rw [Lib.cell_of_heap hB4.box]; rfl
    have f5 := Lib.frozen_of_heap hB4.box 5
    rw [← HKn.out] at hB5 hK5
    have hC5 : BxC w1.heap.size 5 (.slice none 0 0) w4 := ⟨e5⟩
    have HB5 := hide' hB5
    have HK5 := hide' hK5
    clear hB3 hB4 hB5 hK5 g3 hc ho hg hat HJ HB HK
    refine ⟨fun _ => hC5, ?_⟩
    refine wpAnyX_one (i := 6) (by kernel_rfl) (wpOp_wanted rfl (by rfl) ?_)
    go_simp
    refine wpAnyX_one (i := 7) (by kernel_rfl) (wpOp_wanted rfl (by rfl) ?_)
    go_simp
    refine wpAnyX_done (by kernel_rfl) ?_ _
    clear hC5 e5 f5
    go_wp2_with fail
    go_loopg [] n (fun gk wr => gk ≤ n ∧ ∃ s' ka kn kcap kc ks, BoxAt x w wr s' w1.heap.size #[.int .i64 2, .bool ng, .slice none 0 0, .slice none 0 0, .slice none 0 0, .slice ka kn kcap, .slice none 0 0] ∧ KidsS wr (KS w w1.heap.size) (.slice ka kn kcap) kc ks ∧ kn = ks.length ∧ kn + gk ≤ n + 1 ∧ pipeL gk ng ks s' = R)
    case atStart => exact ⟨Nat.le_refl _, s2, some ⟨g, 0, none⟩, 1, cap, _, _, HB5.out, HK5.out, rfl, by omega, HR2.out⟩
    obtain ⟨hgk, s4, ka, kn, kcap, kc, ks, hB, hK, hkn, hbd, hRL⟩ := hrel
    have HKn := hide' hkn
    have hBs := lt_of_block hB.box
    clear HB5 HK5 HR2 HKn0 hkn
    cases gk with
    | zero => exact absurd (by rw [← hRL]; rfl) HR.out.2
    | succ gk' =>
    have HR2 := hide' hRL
    clear hRL
    by_cases h124 : tx s4.ts = [124]
    · have q := pass_yes hB.ps [124] (by simp) h124
      have HR2 := hide' (show (andT (commandP gk' s4.nx.sk) fun c s' => pipeL gk' ng (ks ++ [c]) s') = R by rw [← HR2.out, pipeL, if_pos h124])
      have HB0 := hide' hB
      have HK0 := hide' hK
      clear hB hK h124
      go_wp2_with fail
      refine q.mono ?_
      rintro e w5 ⟨rfl, h5, g5⟩
      clear q
      have hB5 := HB0.out.call g5 h5 hAl
      have hK5 : KidsS w5 (KS w w1.heap.size) (.slice ka kn kcap) kc ks := HK0.out.kept fun g' hg' hl => g5.block g' hl fun e => by have := Option.some.inj e; have := hg'.1; omega
      have q := skip_any h5
      have hs5 := g5.size
      have HB1 := hide' hB5
      have HK1 := hide' hK5
      clear HB0 HK0 h5 g5 hB5 hK5
      dsimp only
      go_wp2_with fail
      refine q.mono ?_
      rintro e w6 ⟨rfl, h6, g6⟩
      clear q
      have HB := hide' (HB1.out.call g6 h6 hAl)
      have HK := hide' (show KidsS w6 (KS w w1.heap.size) (.slice ka kn kcap) kc ks from HK1.out.kept fun g' hg' hl => g6.block g' hl fun e => by have := Option.some.inj e; have := hg'.1; omega)
      have hs6 := g6.size
      have hlW : w1.heap.size < w6.drew.heap.size := by show _ < w6.heap.size; omega
      have HNo := hide' (show commandP gk' s4.nx.sk ≠ .out from fun e => HR.out.2 (by rw [← HR2.out, e]; rfl))
      have q := hCm gk' (by omega) w6.drew s4.nx.sk h6.drew HNo.out
      clear HB1 HK1 h6 g6
      dsimp only
      go_upto_region 5 with fail
      refine wp_region_classX [7] (C := BxC w1.heap.size 5 (.slice ka kn kcap)) (by kernel_rfl) ?_
      have hC : BxC w1.heap.size 5 (.slice ka kn kcap) w6.drew := ⟨by rw [show w6.drew.cell? ⟨w1.heap.size, 5, none⟩ = w6.cell? ⟨w1.heap.size, 5, none⟩ from rfl, Lib.cell_of_heap HB.out.box]; rfl⟩
      (refine wpAnyX_take (i := 0) (v := ?_) hC rfl (by kernel_rfl) (by kernel_rfl) (by kernel_rfl) (by kernel_rfl) (fun _ _ _ h => h) (Or.inl ⟨by kernel_rfl, ?_⟩) ?_; rotate_left; (intro w hc; have k3 := hc.c; clear hc; go_simp; try with_reducible rfl))
      (refine wpAnyX_take (i := 1) (v := ?_) hC rfl (by kernel_rfl) (by kernel_rfl) (by kernel_rfl) (by kernel_rfl) (fun _ _ _ h => h) (Or.inl ⟨by kernel_rfl, ?_⟩) ?_; rotate_left; (intro w hc; have k3 := hc.c; clear hc; go_simp; try with_reducible rfl))
      (refine wpAnyX_take (i := 2) (v := ?_) hC rfl (by kernel_rfl) (by kernel_rfl) (by kernel_rfl) (by kernel_rfl) (fun _ _ _ h => h) (Or.inl ⟨by kernel_rfl, ?_⟩) ?_; rotate_left; (intro w hc; have k3 := hc.c; clear hc; go_simp; try with_reducible rfl))
      refine wpAnyX_one (i := 3) (by kernel_rfl) (wpOp_wanted rfl (by rfl) ?_)
      go_simp
      refine q.mono ?_
      rintro e w3 hr
      clear q hC
      cases hp : commandP gk' s4.nx.sk with
      | out => exact absurd hp HNo.out
      | bad =>
        rw [hp] at hr
        obtain rfl : R = .bad := by rw [← HR2.out, hp]; rfl
        obtain ⟨g3, b, p, rfl, hb⟩ := hr
        exact ⟨rfl, HB.out.gr.trans ((Gr.drew x _).trans g3), b, p, rfl, hb⟩
      | ok c s6 =>
        rw [hp] at hr
        have HR3 := hide' (show pipeL gk' ng (ks ++ [c]) s6 = R by rw [← HR2.out, hp]; rfl)
        obtain ⟨g3, h3, v, rfl, hv⟩ := hr
        obtain ⟨k, nt, a1, a2, a3, a4, a5, n1, n2, n3, n4, n5, c1, c2, c3, c4, c5, rfl, hc⟩ := hv.form
        have hB3 := HB.out.drew.call g3 h3 hAl
        have hs3 := g3.size
        have hb4 : Below w3.heap.size w3 (w3.alloc (.cells #[.int .i64 k, .bool nt, .slice a1 n1 c1, .slice a2 n2 c2, .slice a3 n3 c3, .slice a4 n4 c4, .slice a5 n5 c5] 28)) := (Below.refl _ _).alloc (Nat.le_refl _) _
        have hB4 := hB3.below hb4
        have hC3 : BxC w1.heap.size 5 (.slice ka kn kcap) w3 := ⟨by rw [Lib.cell_of_heap hB3.box]; rfl⟩
        have hC4 : BxC w1.heap.size 5 (.slice ka kn kcap) (w3.alloc (.cells #[.int .i64 k, .bool nt, .slice a1 n1 c1, .slice a2 n2 c2, .slice a3 n3 c3, .slice a4 n4 c4, .slice a5 n5 c5] 28)) := ⟨by rw [Lib.cell_of_heap hB4.box]; rfl⟩
        have hK4 : KidsS (w3.alloc (.cells #[.int .i64 k, .bool nt, .slice a1 n1 c1, .slice a2 n2 c2, .slice a3 n3 c3, .slice a4 n4 c4, .slice a5 n5 c5] 28)) (KS w w1.heap.size) (.slice ka kn kcap) kc ks := (HK.out.kept fun g' hg' hl => g3.block g' hl fun e => by have := Option.some.inj e; have := hg'.1; omega).kept fun g' _ hl => hb4.block g' hl
        have hown := hK4.row.own
        rw [← HKn.out] at hown
        have hnew : ∀ (j : Nat) u, ([.int .i64 k, .bool nt, .slice a1 n1 c1, .slice a2 n2 c2, .slice a3 n3 c3, .slice a4 n4 c4, .slice a5 n5 c5] : List Value)[j]? = some u → (w3.alloc (.cells #[.int .i64 k, .bool nt, .slice a1 n1 c1, .slice a2 n2 c2, .slice a3 n3 c3, .slice a4 n4 c4, .slice a5 n5 c5] 28)).cell? ((⟨w3.heap.size, 0, none⟩ : Addr).add j) = some u := fun j u hj => by rw [Addr.add_lit, Nat.zero_add, Lib.cell_of_heap (heap_alloc_new w3 _)]; simpa using hj
        have HJ := hide' (And.intro hB3 (And.intro g3 hc))
        clear hB3 hB4 hK4 g3 h3 hc hv hb4 hp
        dsimp only
        refine ⟨hC3, ?_⟩
        refine wpAnyX_one (i := 4) (by kernel_rfl) (wpOp_wanted rfl (by rfl) ?_)
        go_simp
        obtain ⟨inf, hi, hz0, hz1, hz2⟩ := info_parts infoCmd
        refine wpAnyX_one (i := 5) (by kernel_rfl) (wpOp_wanted rfl (by rfl) ?_)
        refine wp_append_lies _ _ _ 25 rfl 0 28 inf _ 7 136 Tryz.underlying25 hi hz0 hz1 hz2 rfl (by decide) (.slice ka kn kcap) kn _ rfl hown ⟨w3.heap.size, 0, none⟩ 1 1 [.int .i64 k, .bool nt, .slice a1 n1 c1, .slice a2 n2 c2, .slice a3 n3 c3, .slice a4 n4 c4, .slice a5 n5 c5] rfl rfl hnew (by simp [Value.oneCell']) (by decide) (by unfold maxLen; omega) (by omega) (Nat.zero_le _) _ rfl ?_
        intro g cap w4 ho hg hat _
        clear hi hz0 hz1 hz2 hown hnew hC3 hC4
        obtain ⟨hB3, g3, hc⟩ := HJ.out
        rw [HKn.out] at ho
        obtain ⟨hB4, hB5, hK5⟩ := push_kid (w2 := w6.drew) hB3 (HK.out.kept fun _ _ _ => rfl) g3 hAl hlW hc ho hg hat
        have e5 : w4.cell? ⟨w1.heap.size, 5, none⟩ = some (.slice ka kn kcap) := by rw [Lib.cell_of_heap hB4.box]; rfl
        have f5 := Lib.frozen_of_heap hB4.box 5
        rw [← HKn.out] at hB5 hK5
        have hC5 : BxC w1.heap.size 5 (.slice ka kn kcap) w4 := ⟨e5⟩
        have HB5 := hide' hB5
        have HK5 := hide' hK5
        clear hB3 hB4 hB5 hK5 g3 hc ho hg hat HJ HB HK
        refine ⟨fun _ => hC5, ?_⟩
        refine wpAnyX_one (i := 6) (by kernel_rfl) (wpOp_wanted rfl (by rfl) ?_)
        go_simp
        refine wpAnyX_one (i := 7) (by kernel_rfl) (wpOp_wanted rfl (by rfl) ?_)
        go_simp
        refine wpAnyX_done (by kernel_rfl) ?_ _
        clear hC5 e5 f5
        go_wp2_with fail
        go_roundg gk'
        case rel => exact ⟨by omega, s6, some ⟨g, 0, none⟩, kn + 1, cap, _, _, HB5.out, HK5.out, by rw [HKn.out]; simp, by omega, HR3.out⟩
        case measure => omega
    · have q := pass_no hB.ps [124] h124
      have hRe : R = .ok (pipeV ng ks) s4 := by rw [← HR2.out, pipeL, if_neg h124]
      have HB0 := hide' hB
      have HK0 := hide' hK
      clear hB hK h124
      go_wp2_with fail
      refine q.mono ?_
      rintro e w5 ⟨rfl, m, hw5⟩
      clear q
      have hB5 : BoxAt x w w5 s4 w1.heap.size #[.int .i64 2, .bool ng, .slice none 0 0, .slice none 0 0, .slice none 0 0, .slice ka kn kcap, .slice none 0 0] := by rw [hw5]; exact HB0.out.below (below_drewn m)
      have hK5 : KidsS w5 (KS w w1.heap.size) (.slice ka kn kcap) kc ks := by rw [hw5]; exact HK0.out.kept fun _ _ _ => rfl
      have hs5 : wr.heap.size = w5.heap.size := by rw [hw5]; rfl
      clear hw5 HB0 HK0
      obtain ⟨o0, o1, o2, o3, o4, o5, o6⟩ := cells7 hB5.box
      subst hRe
      by_cases h1 : kn = 1 ∧ ng = false
      · obtain ⟨h1, rfl⟩ := h1
        subst h1
        obtain ⟨c, rfl⟩ : ∃ c, ks = [c] := List.length_eq_one_iff.1 HKn.out.symm
        obtain ⟨gk1, cap1, k, nt, a1, a2, a3, a4, a5, n1, n2, n3, n4, n5, c1, c2, c3, c4, c5, e, hgl, hc, e0, e1, e2, e3, e4, e5, e6⟩ := kid_one (B := w.heap.size + 1) (hK5.mono fun g' hg' _ => hg'.1)
        cases e
        have HE := hide' (prr_end hB5.gr hB5.ps hB5.res hc)
        obtain ⟨r0, r1, r2, r3, r4, r5, r6⟩ := cells7 hB5.res
        obtain ⟨f0, f1, f2, f3, f4, f5, f6⟩ := fz7 hB5.res
        clear hB5 hK5 hc HKn HR2
        dsimp only
        go_wp2
        obtain ⟨hV, hbk⟩ := HE.out _ rfl
        obtain ⟨d0, d1, d2, d3, d4, d5, d6⟩ := cells7 hbk
        refine bodyPost_ret (v := .agg #[.int .i64 k, .bool nt, .slice a1 n1 c1, .slice a2 n2 c2, .slice a3 n3 c3, .slice a4 n4 c4, .slice a5 n5 c5]) (by simp [results, Tryz.results100, go_sem, d0, d1, d2, d3, d4, d5, d6]) rfl ?_
        exact hV
      · have hV : pipeV ng ks = .mk 2 ng [] [] [] ks [] := by
          unfold pipeV
          rw [if_neg (by rw [← HKn.out]; exact h1)]
        have hc : CdAt w5 (fun g => w.heap.size + 1 ≤ g) [.int .i64 2, .bool ng, .slice none 0 0, .slice none 0 0, .slice none 0 0, .slice ka kn kcap, .slice none 0 0] (pipeV ng ks) := by rw [hV]; exact (hK5.cmd 2 ng).mono fun g' hg' _ => hg'.1
        have HE := hide' (prr_end hB5.gr hB5.ps hB5.res hc)
        obtain ⟨r0, r1, r2, r3, r4, r5, r6⟩ := cells7 hB5.res
        obtain ⟨f0, f1, f2, f3, f4, f5, f6⟩ := fz7 hB5.res
        clear hB5 hK5 hc HKn HR2 hV
        by_cases hk1 : kn = 1
        · have hnt : ng = true := by cases ng with
            | true => rfl
            | false => exact absurd ⟨hk1, rfl⟩ h1
          subst hk1
          subst hnt
          clear h1
          dsimp only
          go_wp2
          obtain ⟨hV, hbk⟩ := HE.out _ rfl
          obtain ⟨d0, d1, d2, d3, d4, d5, d6⟩ := cells7 hbk
          refine bodyPost_ret (v := .agg #[.int .i64 2, .bool true, .slice none 0 0, .slice none 0 0, .slice none 0 0, .slice ka 1 kcap, .slice none 0 0]) (by simp [results, Tryz.results100, go_sem, d0, d1, d2, d3, d4, d5, d6]) rfl ?_
          exact hV
        · have hk2 : ((kn : Int) == 1) = false := beq_eq_false_iff_ne.2 (by omega)
          have hk3 : ¬ (kn : Int) = 1 := by omega
          clear h1 hk1
          dsimp only
          go_wp2
          obtain ⟨hV, hbk⟩ := HE.out _ rfl
          obtain ⟨d0, d1, d2, d3, d4, d5, d6⟩ := cells7 hbk
          refine bodyPost_ret (v := .agg #[.int .i64 2, .bool ng, .slice none 0 0, .slice none 0 0, .slice none 0 0, .slice ka kn kcap, .slice none 0 0]) (by simp [results, Tryz.results100, go_sem, d0, d1, d2, d3, d4, d5, d6]) rfl ?_
          exact hV
end Go.Proofs.YtcemlhfodpelaaaGreatDoor
