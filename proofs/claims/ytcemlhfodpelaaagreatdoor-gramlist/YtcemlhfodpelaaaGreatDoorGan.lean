/- andors. -/
import Derived.Test.YtcemlhfodpelaaaGreatDoorZk
import Derived.Test.YtcemlhfodpelaaaGreatDoorZf
namespace Go.Proofs.YtcemlhfodpelaaaGreatDoor
open Go.RowKit

set_option maxRecDepth 100000 in
set_option maxHeartbeats 4000000 in
theorem andors_step {x : Cx} {n : Nat} (hn : n ≤ 1000000) (hCm : ∀ n', n' ≤ n → ∀ w s, PsAt w x s → andorP n' s ≠ .out → Calls Tryz.prog 84 #[ptr x.A] w (PrR x w (andorP n' s) (CmdV w.heap.size))) (w : World) (s : PS) (h : PsAt w x s) (hne : andorsP (n + 1) s ≠ .out) : Calls Tryz.prog 63 #[ptr x.A] w (PrR x w (andorsP (n + 1) s) (ListV w.heap.size)) := by
  have hAl := h.lt
  obtain ⟨W, hW, h0, g0, z0, s0⟩ := res_laid h
  have HW := hide' hW
  obtain ⟨R, hR⟩ : ∃ R, andorsP (n + 1) s = R := ⟨_, rfl⟩
  rw [hR] at hne ⊢
  rw [andorsP] at hR
  have HR := hide' (And.intro hR hne)
  have HNo := hide' (show andorP n s ≠ .out from fun e => hne (by rw [← hR, e]; rfl))
  have q := hCm n (Nat.le_refl _) W s h0 HNo.out
  have HH := hide' (And.intro g0 (And.intro z0 s0))
  clear hW h0 g0 z0 s0 h hR hne
  go_enter Tryz.func63, Tryz.ntmps63
  go_wp2_with fail
  rw [← HW.out]
  refine q.mono ?_
  rintro e w1 hr
  clear q
  obtain ⟨g0, z0, s0⟩ := HH.out
  cases hp : andorP n s with
  | out => exact absurd hp HNo.out
  | bad =>
    rw [hp] at hr
    obtain rfl : R = .bad := by rw [← HR.out.1, hp]; rfl
    obtain ⟨g3, b, p, rfl, hb⟩ := hr
    exact ⟨rfl, g0.trans g3, b, p, rfl, hb⟩
  | ok c s1 =>
    rw [hp] at hr
    have HR2 := hide' (show andorsL n [c] s1 = R by rw [← HR.out.1, hp]; rfl)
    obtain ⟨g1, h1, v, rfl, hv⟩ := hr
    obtain ⟨k, nt, a1, a2, a3, a4, a5, n1, n2, n3, n4, n5, c1, c2, c3, c4, c5, rfl, hc⟩ := hv.form
    have z1 := g1.blk (by omega) z0
    have hs1 := g1.size
    have hk1 := kids_new w1 (w.heap.size + 1) [[.int .i64 k, .bool nt, .slice a1 n1 c1, .slice a2 n2 c2, .slice a3 n3 c3, .slice a4 n4 c4, .slice a5 n5 c5]] [c] #[.int .i64 k, .bool nt, .slice a1 n1 c1, .slice a2 n2 c2, .slice a3 n3 c3, .slice a4 n4 c4, .slice a5 n5 c5] rfl (fun i cs c' e1 e2 => by
      match i, e1, e2 with
      | 0, e1, e2 => cases e1; cases e2; exact hc.mono fun g hg _ => by omega) (by omega) rfl rfl (by simp) (by simp)
    obtain ⟨w2, hw2⟩ : ∃ w2, w2 = (w1.alloc (.cells #[.int .i64 k, .bool nt, .slice a1 n1 c1, .slice a2 n2 c2, .slice a3 n3 c3, .slice a4 n4 c4, .slice a5 n5 c5] 28)).alloc (.cells #[.int .i64 5, .bool false, .slice none 0 0, .slice none 0 0, .slice none 0 0, .slice (some ⟨w1.heap.size, 0, none⟩) 1 1, .slice none 0 0] 28) := ⟨_, rfl⟩
    have hsA : (w1.alloc (.cells #[.int .i64 k, .bool nt, .slice a1 n1 c1, .slice a2 n2 c2, .slice a3 n3 c3, .slice a4 n4 c4, .slice a5 n5 c5] 28)).heap.size = w1.heap.size + 1 := by simp
    have hb1 : Below w1.heap.size w1 (w1.alloc (.cells #[.int .i64 k, .bool nt, .slice a1 n1 c1, .slice a2 n2 c2, .slice a3 n3 c3, .slice a4 n4 c4, .slice a5 n5 c5] 28)) := (Below.refl _ _).alloc (Nat.le_refl _) _
    have hb2' : Below (w1.alloc (.cells #[.int .i64 k, .bool nt, .slice a1 n1 c1, .slice a2 n2 c2, .slice a3 n3 c3, .slice a4 n4 c4, .slice a5 n5 c5] 28)).heap.size (w1.alloc (.cells #[.int .i64 k, .bool nt, .slice a1 n1 c1, .slice a2 n2 c2, .slice a3 n3 c3, .slice a4 n4 c4, .slice a5 n5 c5] 28)) w2 := by rw [hw2]; exact (Below.refl _ _).alloc (Nat.le_refl _) _
    have hb2 : Below w1.heap.size w1 w2 := hb1.trans (hb2'.mono (by simp))
    have HK := hide' (show KidsS w2 (KS w (w1.heap.size + 1)) (.slice (some ⟨w1.heap.size, 0, none⟩) 1 1) [[.int .i64 k, .bool nt, .slice a1 n1 c1, .slice a2 n2 c2, .slice a3 n3 c3, .slice a4 n4 c4, .slice a5 n5 c5]] [c] from (hk1.mono fun g hg hl => ⟨hg, by omega⟩).kept fun g _ hg => hb2'.block g hg)
    have zb : w2.heap[w1.heap.size + 1]? = some (.cells #[.int .i64 5, .bool false, .slice none 0 0, .slice none 0 0, .slice none 0 0, .slice (some ⟨w1.heap.size, 0, none⟩) 1 1, .slice none 0 0] 28 (0, 0)) := by
      rw [hw2]
      have := heap_alloc_new (w1.alloc (.cells #[.int .i64 k, .bool nt, .slice a1 n1 c1, .slice a2 n2 c2, .slice a3 n3 c3, .slice a4 n4 c4, .slice a5 n5 c5] 28)) (.cells #[.int .i64 5, .bool false, .slice none 0 0, .slice none 0 0, .slice none 0 0, .slice (some ⟨w1.heap.size, 0, none⟩) 1 1, .slice none 0 0] 28)
      rwa [hsA] at this
    have HB := hide' (show BoxAt x w w2 s1 (w1.heap.size + 1) #[.int .i64 5, .bool false, .slice none 0 0, .slice none 0 0, .slice none 0 0, .slice (some ⟨w1.heap.size, 0, none⟩) 1 1, .slice none 0 0] from ⟨h1.below hb2, (g0.trans g1).trans (Gr.of_below hb2), (hb2.block _ (lt_of_block z1)).trans z1, zb, by omega⟩)
    obtain ⟨bx, hbx⟩ : ∃ bx, bx = w1.heap.size + 1 := ⟨_, rfl⟩
    have HBX := hide' hbx
    have hbl : w.heap.size < bx := by omega
    have HW2 := hide' hw2
    clear hk1 hsA hb1 hb2' hb2 hw2 h1 g1 g0 z0 z1 HH zb hc hv hp
    dsimp only
    go_wp2_with fail
    rw [← HW2.out]
    rw [← hbx] at HB HK ⊢
    clear hbx
    go_loopg [] n (fun gk wr => gk ≤ n ∧ ∃ s' ka kn kcap kc ks, BoxAt x w wr s' bx #[.int .i64 5, .bool false, .slice none 0 0, .slice none 0 0, .slice none 0 0, .slice ka kn kcap, .slice none 0 0] ∧ KidsS wr (KS w bx) (.slice ka kn kcap) kc ks ∧ kn = ks.length ∧ kn + gk ≤ n + 1 ∧ andorsL gk ks s' = R)
    case atStart => exact ⟨Nat.le_refl _, s1, _, 1, 1, _, _, HB.out, HK.out, rfl, by omega, HR2.out⟩
    obtain ⟨hgk, s4, ka, kn, kcap, kc, ks, hB, hK, hkn, hbd, hRL⟩ := hrel
    have HKn := hide' hkn
    have hBs := lt_of_block hB.box
    clear HB HK HR2 hkn
    cases gk with
    | zero => exact absurd (by rw [← hRL]; rfl) HR.out.2
    | succ gk' =>
    rw [andorsL] at hRL
    cases hsp : sepP s4 with
    | none =>
      have q := sep_none hB.ps hsp
      rw [hsp] at hRL
      obtain rfl : R = .ok ks s4 := hRL.symm
      have HB0 := hide' hB
      have HK0 := hide' hK
      clear hB hK hsp hRL
      go_wp2_with fail
      refine q.mono ?_
      rintro e w5 ⟨rfl, h5, g5⟩
      clear q
      have hB5 := HB0.out.call g5 h5 hAl
      have hK5 : KidsS w5 (KS w bx) (.slice ka kn kcap) kc ks := HK0.out.kept fun g' hg' hl => g5.block g' hl fun e => by have := Option.some.inj e; have := hg'.1; omega
      clear HB0 HK0 h5 g5
      have HE := hide' (prr_endL hB5.gr hB5.ps hB5.res (hK5.mono fun g' hg' _ => hg'.1))
      obtain ⟨o0, o1, o2, o3, o4, o5, o6⟩ := cells7 hB5.box
      obtain ⟨r0, r1, r2, r3, r4, r5, r6⟩ := cells7 hB5.res
      obtain ⟨f0, f1, f2, f3, f4, f5, f6⟩ := fz7 hB5.res
      clear hB5 hK5 HKn
      dsimp only
      go_wp2
      obtain ⟨hV, hbk⟩ := HE.out _ rfl
      obtain ⟨d0, d1, d2, d3, d4, d5, d6⟩ := cells7 hbk
      refine bodyPost_ret (v := .agg #[.int .i64 5, .bool false, .slice none 0 0, .slice none 0 0, .slice none 0 0, .slice ka kn kcap, .slice none 0 0]) (by simp [results, Tryz.results63, go_sem, d0, d1, d2, d3, d4, d5, d6]) rfl ?_
      exact hV
    | some s5 =>
      have q := sep_some hB.ps hsp
      rw [hsp] at hRL
      have HR2 := hide' hRL
      have HB0 := hide' hB
      have HK0 := hide' hK
      clear hB hK hsp hRL
      go_wp2_with fail
      refine q.mono ?_
      rintro e w5 ⟨rfl, h5, g5⟩
      clear q
      have hB5 := HB0.out.call g5 h5 hAl
      have hK5 : KidsS w5 (KS w bx) (.slice ka kn kcap) kc ks := HK0.out.kept fun g' hg' hl => g5.block g' hl fun e => by have := Option.some.inj e; have := hg'.1; omega
      have hs5 := g5.size
      have q := ends_any h5
      have HB1 := hide' hB5
      have HK1 := hide' hK5
      obtain ⟨eb, heb⟩ : ∃ eb, endsB (tx s5.ts) = eb := ⟨_, rfl⟩
      rw [heb] at q
      have HEB := hide' heb
      clear HB0 HK0 h5 g5 hB5 hK5 heb
      dsimp only
      go_wp2_with fail
      refine q.mono ?_
      rintro e w6 ⟨rfl, m, hw6⟩
      clear q
      have hB6 : BoxAt x w w6 s5 bx #[.int .i64 5, .bool false, .slice none 0 0, .slice none 0 0, .slice none 0 0, .slice ka kn kcap, .slice none 0 0] := by rw [hw6]; exact HB1.out.below (below_drewn m)
      have hK6 : KidsS w6 (KS w bx) (.slice ka kn kcap) kc ks := by rw [hw6]; exact HK1.out.kept fun _ _ _ => rfl
      have hs6 : w5.heap.size = w6.heap.size := by rw [hw6]; rfl
      clear hw6 HB1 HK1
      cases eb with
      | true =>
        obtain rfl : R = .ok ks s5 := by rw [← HR2.out, if_pos HEB.out]
        have hB5 := hB6
        have hK5 := hK6
        clear hB6 hK6
        have HE := hide' (prr_endL hB5.gr hB5.ps hB5.res (hK5.mono fun g' hg' _ => hg'.1))
        obtain ⟨o0, o1, o2, o3, o4, o5, o6⟩ := cells7 hB5.box
        obtain ⟨r0, r1, r2, r3, r4, r5, r6⟩ := cells7 hB5.res
        obtain ⟨f0, f1, f2, f3, f4, f5, f6⟩ := fz7 hB5.res
        clear hB5 hK5 HKn
        dsimp only
        go_wp2
        obtain ⟨hV, hbk⟩ := HE.out _ rfl
        obtain ⟨d0, d1, d2, d3, d4, d5, d6⟩ := cells7 hbk
        refine bodyPost_ret (v := .agg #[.int .i64 5, .bool false, .slice none 0 0, .slice none 0 0, .slice none 0 0, .slice ka kn kcap, .slice none 0 0]) (by simp [results, Tryz.results63, go_sem, d0, d1, d2, d3, d4, d5, d6]) rfl ?_
        exact hV
      | false =>
        have HR2 := hide' (show (andT (andorP gk' s5) fun c s2 => andorsL gk' (ks ++ [c]) s2) = R by rw [← HR2.out, if_neg (by rw [HEB.out]; decide)])
        have HNo := hide' (show andorP gk' s5 ≠ .out from fun e => HR.out.2 (by rw [← HR2.out, e]; rfl))
        have q := hCm gk' (by omega) w6.drew s5 hB6.ps.drew HNo.out
        have hlW : bx < w6.drew.heap.size := by show _ < w6.heap.size; omega
        have HB := hide' hB6
        have HK := hide' hK6
        clear hB6 hK6
        dsimp only
        go_upto_region 3 with fail
        refine wp_region_classX [7] (C := BxC bx 5 (.slice ka kn kcap)) (by kernel_rfl) ?_
        have hC : BxC bx 5 (.slice ka kn kcap) w6.drew := ⟨by rw [show w6.drew.cell? ⟨bx, 5, none⟩ = w6.cell? ⟨bx, 5, none⟩ from rfl, Lib.cell_of_heap HB.out.box]; rfl⟩
        (refine wpAnyX_take (i := 0) (v := ?_) hC rfl (by kernel_rfl) (by kernel_rfl) (by kernel_rfl) (by kernel_rfl) (fun _ _ _ h => h) (Or.inl ⟨by kernel_rfl, ?_⟩) ?_; rotate_left; (intro w hc; have k3 := hc.c; clear hc; go_simp; try with_reducible rfl))
        (refine wpAnyX_take (i := 1) (v := ?_) hC rfl (by kernel_rfl) (by kernel_rfl) (by kernel_rfl) (by kernel_rfl) (fun _ _ _ h => h) (Or.inl ⟨by kernel_rfl, ?_⟩) ?_; rotate_left; (intro w hc; have k3 := hc.c; clear hc; go_simp; try with_reducible rfl))
        (refine wpAnyX_take (i := 2) (v := ?_) hC rfl (by kernel_rfl) (by kernel_rfl) (by kernel_rfl) (by kernel_rfl) (fun _ _ _ h => h) (Or.inl ⟨by kernel_rfl, ?_⟩) ?_; rotate_left; (intro w hc; have k3 := hc.c; clear hc; go_simp; try with_reducible rfl))
        refine wpAnyX_one (i := 3) (by kernel_rfl) (wpOp_wanted rfl (by rfl) ?_)
        go_simp
        refine q.mono ?_
        rintro e w3 hr
        clear q hC
        cases hp : andorP gk' s5 with
        | out => exact absurd hp HNo.out
        | bad =>
          rw [hp] at hr
          obtain rfl : R = .bad := by rw [← HR2.out, hp]; rfl
          obtain ⟨g3, b, p, rfl, hb⟩ := hr
          exact ⟨rfl, HB.out.gr.trans ((Gr.drew x _).trans g3), b, p, rfl, hb⟩
        | ok c s6 =>
          rw [hp] at hr
          have HR3 := hide' (show andorsL gk' (ks ++ [c]) s6 = R by rw [← HR2.out, hp]; rfl)
          obtain ⟨g3, h3, v, rfl, hv⟩ := hr
          obtain ⟨k, nt, a1, a2, a3, a4, a5, n1, n2, n3, n4, n5, c1, c2, c3, c4, c5, rfl, hc⟩ := hv.form
          have hB3 := HB.out.drew.call g3 h3 hAl
          have hs3 := g3.size
          have hb4 : Below w3.heap.size w3 (w3.alloc (.cells #[.int .i64 k, .bool nt, .slice a1 n1 c1, .slice a2 n2 c2, .slice a3 n3 c3, .slice a4 n4 c4, .slice a5 n5 c5] 28)) := (Below.refl _ _).alloc (Nat.le_refl _) _
          have hB4 := hB3.below hb4
          have hC3 : BxC bx 5 (.slice ka kn kcap) w3 := ⟨by rw [Lib.cell_of_heap hB3.box]; rfl⟩
          have hC4 : BxC bx 5 (.slice ka kn kcap) (w3.alloc (.cells #[.int .i64 k, .bool nt, .slice a1 n1 c1, .slice a2 n2 c2, .slice a3 n3 c3, .slice a4 n4 c4, .slice a5 n5 c5] 28)) := ⟨by rw [Lib.cell_of_heap hB4.box]; rfl⟩
          have hK4 : KidsS (w3.alloc (.cells #[.int .i64 k, .bool nt, .slice a1 n1 c1, .slice a2 n2 c2, .slice a3 n3 c3, .slice a4 n4 c4, .slice a5 n5 c5] 28)) (KS w bx) (.slice ka kn kcap) kc ks := (HK.out.kept fun g' hg' hl => g3.block g' hl fun e => by have := Option.some.inj e; have := hg'.1; omega).kept fun g' _ hl => hb4.block g' hl
          have hown := hK4.row.own
          rw [← HKn.out] at hown
          have hnew : ∀ (j : Nat) u, ([.int .i64 k, .bool nt, .slice a1 n1 c1, .slice a2 n2 c2, .slice a3 n3 c3, .slice a4 n4 c4, .slice a5 n5 c5] : List Value)[j]? = some u → (w3.alloc (.cells #[.int .i64 k, .bool nt, .slice a1 n1 c1, .slice a2 n2 c2, .slice a3 n3 c3, .slice a4 n4 c4, .slice a5 n5 c5] 28)).cell? ((⟨w3.heap.size, 0, none⟩ : Addr).add j) = some u := fun j u hj => by rw [Addr.add_lit, Nat.zero_add, Lib.cell_of_heap (heap_alloc_new w3 _)]; simpa using hj
          have HJ := hide' (And.intro hB3 (And.intro g3 hc))
          clear hB3 hB4 hK4 g3 h3 hc hv hb4 hp
          dsimp only
          refine ⟨hC3, ?_⟩
          refine wpAnyX_one (i := 4) (by kernel_rfl) (wpOp_wanted rfl (by rfl) ?_)
          go_simp
          obtain ⟨inf, hi, hz0, hz1, hz2⟩ := info_parts infoCmd
          refine wpAnyX_one (i := 5) (by kernel_rfl) (wpOp_wanted rfl (by rfl) ?_)
          refine wp_append_lies _ _ _ 25 rfl 0 28 inf _ 7 136 Tryz.underlying25 hi hz0 hz1 hz2 rfl (by decide) (.slice ka kn kcap) kn _ rfl hown ⟨w3.heap.size, 0, none⟩ 1 1 [.int .i64 k, .bool nt, .slice a1 n1 c1, .slice a2 n2 c2, .slice a3 n3 c3, .slice a4 n4 c4, .slice a5 n5 c5] rfl rfl hnew (by simp [Value.oneCell']) (by decide) (by unfold maxLen; omega) (by omega) (Nat.zero_le _) _ rfl ?_
          intro g cap w4 ho hg hat _
          clear hi hz0 hz1 hz2 hown hnew hC3 hC4
          obtain ⟨hB3, g3, hc⟩ := HJ.out
          rw [HKn.out] at ho
          obtain ⟨hB4, hB5, hK5⟩ := push_kid (w2 := w6.drew) hB3 (HK.out.kept fun _ _ _ => rfl) g3 hAl hlW hc ho hg hat
          have e5 : w4.cell? ⟨bx, 5, none⟩ = some (.slice ka kn kcap) := by rw [Lib.cell_of_heap hB4.box]; rfl
          have f5 := Lib.frozen_of_heap hB4.box 5
          rw [← HKn.out] at hB5 hK5
          have hC5 : BxC bx 5 (.slice ka kn kcap) w4 := ⟨e5⟩
          have HB5 := hide' hB5
          have HK5 := hide' hK5
          clear hB3 hB4 hB5 hK5 g3 hc ho hg hat HJ HB HK
          refine ⟨fun _ => hC5, ?_⟩
          refine wpAnyX_one (i := 6) (by kernel_rfl) (wpOp_wanted rfl (by rfl) ?_)
          go_simp
          refine wpAnyX_one (i := 7) (by kernel_rfl) (wpOp_wanted rfl (by rfl) ?_)
          go_simp
          refine wpAnyX_done (by kernel_rfl) ?_ _
          clear hC5 e5 f5
          go_wp2_with fail
          go_roundg gk'
          case rel => exact ⟨by omega, s6, some ⟨g, 0, none⟩, kn + 1, cap, _, _, HB5.out, HK5.out, by rw [HKn.out]; simp, by omega, HR3.out⟩
          case measure => omega
end Go.Proofs.YtcemlhfodpelaaaGreatDoor
