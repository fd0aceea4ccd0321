/- if and elif. -/
import Derived.Test.YtcemlhfodpelaaaGreatDoorZk
import Derived.Test.YtcemlhfodpelaaaGreatDoorZf
namespace Go.Proofs.YtcemlhfodpelaaaGreatDoor
open Go.RowKit

set_option maxRecDepth 100000 in
set_option maxHeartbeats 8000000 in
theorem choice_step {x : Cx} {n : Nat} (hL : ∀ w s, PsAt w x s → listP n s ≠ .out → Calls Tryz.prog 53 #[ptr x.A] w (PrR x w (listP n s) (CmdV w.heap.size))) (hCh : ∀ w s, PsAt w x s → choiceP n s ≠ .out → Calls Tryz.prog 32 #[ptr x.A] w (PrR x w (choiceP n s) (CmdV w.heap.size))) (w : World) (s : PS) (h : PsAt w x s) (hne : choiceP (n + 1) s ≠ .out) : Calls Tryz.prog 32 #[ptr x.A] w (PrR x w (choiceP (n + 1) s) (CmdV w.heap.size)) := by
  have hAl := h.lt
  obtain ⟨W, hW, h0, g0, z0, s0⟩ := res_laid h
  have HW := hide' hW
  obtain ⟨R, hR⟩ : ∃ R, choiceP (n + 1) s = R := ⟨_, rfl⟩
  rw [hR] at hne ⊢
  rw [choiceP] at hR
  have HR := hide' (And.intro hR hne)
  have q := hL W s h0 (fun e => hne (by rw [← hR, e]; rfl))
  have HH := hide' (And.intro g0 (And.intro z0 s0))
  clear hW h0 g0 z0 s0 h hR hne
  go_enter Tryz.func32, Tryz.ntmps32
  go_wp2_with fail
  rw [← HW.out]
  refine q.mono ?_
  rintro e w1 hr
  clear q
  obtain ⟨g0, z0, s0⟩ := HH.out
  cases hp : listP n s with
  | out => exact absurd (by rw [← HR.out.1, hp]; rfl) HR.out.2
  | bad =>
    rw [hp] at hr
    obtain rfl : R = .bad := by rw [← HR.out.1, hp]; rfl
    obtain ⟨g3, b, p, rfl, hb⟩ := hr
    exact ⟨rfl, g0.trans g3, b, p, rfl, hb⟩
  | ok c0 s1 =>
    rw [hp] at hr
    have HR2 := hide' (show (andT (wantP [116, 104, 101, 110] s1) fun _ s2 => andT (listP n s2) fun b s3 =>
      if tx s3.ts = [101, 108, 105, 102] then andT (choiceP n s3.nx) fun c s4 => .ok (.mk 6 false [] [] [] [c0, b, c] []) s4
      else if tx s3.ts = [101, 108, 115, 101] then andT (listP n s3.nx) fun c s4 => andT (wantP [102, 105] s4) fun _ s5 => .ok (.mk 6 false [] [] [] [c0, b, c] []) s5
      else andT (wantP [102, 105] s3) fun _ s4 => .ok (.mk 6 false [] [] [] [c0, b] []) s4) = R by rw [← HR.out.1, hp]; rfl)
    obtain ⟨g1, h1, v, rfl, hv⟩ := hr
    obtain ⟨k, nt, a1, a2, a3, a4, a5, n1, n2, n3, n4, n5, c1, c2, c3, c4, c5, rfl, hc⟩ := hv.form
    have z1 := g1.blk (by omega) z0
    have hs1 := g1.size
    have hk1 := kids_new w1 (w.heap.size + 1) [[.int .i64 k, .bool nt, .slice a1 n1 c1, .slice a2 n2 c2, .slice a3 n3 c3, .slice a4 n4 c4, .slice a5 n5 c5]] [c0] #[.int .i64 k, .bool nt, .slice a1 n1 c1, .slice a2 n2 c2, .slice a3 n3 c3, .slice a4 n4 c4, .slice a5 n5 c5] rfl (fun i cs c' e1 e2 => by
      match i, e1, e2 with
      | 0, e1, e2 => cases e1; cases e2; exact hc.mono fun g hg _ => by omega) (by omega) rfl rfl (by simp) (by simp)
    obtain ⟨w2, hw2⟩ : ∃ w2, w2 = (w1.alloc (.cells #[.int .i64 k, .bool nt, .slice a1 n1 c1, .slice a2 n2 c2, .slice a3 n3 c3, .slice a4 n4 c4, .slice a5 n5 c5] 28)).alloc (.cells #[.int .i64 6, .bool false, .slice none 0 0, .slice none 0 0, .slice none 0 0, .slice (some ⟨w1.heap.size, 0, none⟩) 1 1, .slice none 0 0] 28) := ⟨_, rfl⟩
    have hsA : (w1.alloc (.cells #[.int .i64 k, .bool nt, .slice a1 n1 c1, .slice a2 n2 c2, .slice a3 n3 c3, .slice a4 n4 c4, .slice a5 n5 c5] 28)).heap.size = w1.heap.size + 1 := by simp
    have hb1 : Below w1.heap.size w1 (w1.alloc (.cells #[.int .i64 k, .bool nt, .slice a1 n1 c1, .slice a2 n2 c2, .slice a3 n3 c3, .slice a4 n4 c4, .slice a5 n5 c5] 28)) := (Below.refl _ _).alloc (Nat.le_refl _) _
    have hb2' : Below (w1.alloc (.cells #[.int .i64 k, .bool nt, .slice a1 n1 c1, .slice a2 n2 c2, .slice a3 n3 c3, .slice a4 n4 c4, .slice a5 n5 c5] 28)).heap.size (w1.alloc (.cells #[.int .i64 k, .bool nt, .slice a1 n1 c1, .slice a2 n2 c2, .slice a3 n3 c3, .slice a4 n4 c4, .slice a5 n5 c5] 28)) w2 := by rw [hw2]; exact (Below.refl _ _).alloc (Nat.le_refl _) _
    have hb2 : Below w1.heap.size w1 w2 := hb1.trans (hb2'.mono (by simp))
    have hK0 : KidsS w2 (KS w (w1.heap.size + 1)) (.slice (some ⟨w1.heap.size, 0, none⟩) 1 1) [[.int .i64 k, .bool nt, .slice a1 n1 c1, .slice a2 n2 c2, .slice a3 n3 c3, .slice a4 n4 c4, .slice a5 n5 c5]] [c0] := (hk1.mono fun g hg hl => ⟨hg, by omega⟩).kept fun g _ hg => hb2'.block g hg
    have zb : w2.heap[w1.heap.size + 1]? = some (.cells #[.int .i64 6, .bool false, .slice none 0 0, .slice none 0 0, .slice none 0 0, .slice (some ⟨w1.heap.size, 0, none⟩) 1 1, .slice none 0 0] 28 (0, 0)) := by
      rw [hw2]
      have := heap_alloc_new (w1.alloc (.cells #[.int .i64 k, .bool nt, .slice a1 n1 c1, .slice a2 n2 c2, .slice a3 n3 c3, .slice a4 n4 c4, .slice a5 n5 c5] 28)) (.cells #[.int .i64 6, .bool false, .slice none 0 0, .slice none 0 0, .slice none 0 0, .slice (some ⟨w1.heap.size, 0, none⟩) 1 1, .slice none 0 0] 28)
      rwa [hsA] at this
    have hB0 : BoxAt x w w2 s1 (w1.heap.size + 1) #[.int .i64 6, .bool false, .slice none 0 0, .slice none 0 0, .slice none 0 0, .slice (some ⟨w1.heap.size, 0, none⟩) 1 1, .slice none 0 0] := ⟨h1.below hb2, (g0.trans g1).trans (Gr.of_below hb2), (hb2.block _ (lt_of_block z1)).trans z1, zb, by omega⟩
    obtain ⟨ka, kn, kcap, kc, hB, hK, hkn, hk9⟩ : ∃ ka kn kcap kc, BoxAt x w w2 s1 (w1.heap.size + 1) #[.int .i64 6, .bool false, .slice none 0 0, .slice none 0 0, .slice none 0 0, .slice ka kn kcap, .slice none 0 0] ∧ KidsS w2 (KS w (w1.heap.size + 1)) (.slice ka kn kcap) kc [c0] ∧ kn = [c0].length ∧ kn ≤ 9 := ⟨_, 1, 1, _, hB0, hK0, rfl, by omega⟩
    have HB := hide' hB
    have HK := hide' hK
    have HKn := hide' hkn
    obtain ⟨bx, hbx⟩ : ∃ bx, bx = w1.heap.size + 1 := ⟨_, rfl⟩
    have hbl : w.heap.size < bx := by omega
    have HW2 := hide' hw2
    have hlW : bx < w2.heap.size := by rw [hbx]; exact lt_of_block zb
    clear hk1 hsA hb1 hb2' hb2 hw2 h1 g1 g0 z0 z1 HH zb hc hv hp hB hK hkn hB0 hK0
    rw [← hbx] at HB HK
    by_cases hwt : tx s1.ts = [116, 104, 101, 110]
    · have q := want_yes HB.out.ps [116, 104, 101, 110] (by simp) hwt
      have HR3 := hide' (show (andT (listP n s1.nx) fun b s3 =>
          if tx s3.ts = [101, 108, 105, 102] then andT (choiceP n s3.nx) fun c s4 => .ok (.mk 6 false [] [] [] [c0, b, c] []) s4
          else if tx s3.ts = [101, 108, 115, 101] then andT (listP n s3.nx) fun c s4 => andT (wantP [102, 105] s4) fun _ s5 => .ok (.mk 6 false [] [] [] [c0, b, c] []) s5
          else andT (wantP [102, 105] s3) fun _ s4 => .ok (.mk 6 false [] [] [] [c0, b] []) s4) = R by rw [← HR2.out]; simp only [andT, wantP, if_pos hwt])
      clear hwt HR2
      dsimp only
      go_wp2_with fail
      rw [← HW2.out, ← hbx]
      clear hbx
      refine q.mono ?_
      rintro e wA ⟨rfl, h1, g1⟩
      clear q
      have hB := HB.out
      have hK := HK.out
      clear HB HK
      replace hK : KidsS wA (KS w bx) (.slice ka kn kcap) kc [c0] := hK.kept fun g' hg' hl => g1.block g' hl fun e => by have := Option.some.inj e; have := hg'.1; omega
      replace hB := hB.call g1 h1 hAl
      clear g1 h1
      have HNo := hide' (show listP n s1.nx ≠ .out from fun e => HR.out.2 (by rw [← HR3.out, e]; rfl))
      have q := hL wA.drew s1.nx hB.ps.drew HNo.out
      have hlW : bx < wA.drew.heap.size := lt_of_block hB.box
      have HB := hide' hB
      have HK := hide' hK
      clear hB hK
      (try dsimp only)
      go_upto_region 3 with fail
      refine wp_region_classX [7] (C := BxC bx 5 (.slice ka kn kcap)) (by kernel_rfl) ?_
      have hC : BxC bx 5 (.slice ka kn kcap) wA.drew := ⟨by rw [show wA.drew.cell? ⟨bx, 5, none⟩ = wA.cell? ⟨bx, 5, none⟩ from rfl, Lib.cell_of_heap HB.out.box]; rfl⟩
      (refine wpAnyX_take (i := 0) (v := ?_) hC rfl (by kernel_rfl) (by kernel_rfl) (by kernel_rfl) (by kernel_rfl) (fun _ _ _ h => h) (Or.inl ⟨by kernel_rfl, ?_⟩) ?_; rotate_left; (intro w hc; have k3 := hc.c; clear hc; go_simp; try with_reducible rfl))
      (refine wpAnyX_take (i := 1) (v := ?_) hC rfl (by kernel_rfl) (by kernel_rfl) (by kernel_rfl) (by kernel_rfl) (fun _ _ _ h => h) (Or.inl ⟨by kernel_rfl, ?_⟩) ?_; rotate_left; (intro w hc; have k3 := hc.c; clear hc; go_simp; try with_reducible rfl))
      (refine wpAnyX_take (i := 2) (v := ?_) hC rfl (by kernel_rfl) (by kernel_rfl) (by kernel_rfl) (by kernel_rfl) (fun _ _ _ h => h) (Or.inl ⟨by kernel_rfl, ?_⟩) ?_; rotate_left; (intro w hc; have k3 := hc.c; clear hc; go_simp; try with_reducible rfl))
      refine wpAnyX_one (i := 3) (by kernel_rfl) (wpOp_wanted rfl (by rfl) ?_)
      go_simp
      refine q.mono ?_
      rintro e w3 hr
      clear q hC
      cases hp : listP n s1.nx with
      | out => exact absurd hp HNo.out
      | bad =>
        rw [hp] at hr
        obtain rfl : R = .bad := by rw [← HR3.out, hp]; rfl
        obtain ⟨g3, b, p, rfl, hb⟩ := hr
        exact ⟨rfl, HB.out.gr.trans ((Gr.drew x _).trans g3), b, p, rfl, hb⟩
      | ok c1' s3 =>
        rw [hp] at hr
        have HR4 := hide' (show (if tx s3.ts = [101, 108, 105, 102] then andT (choiceP n s3.nx) fun c s4 => .ok (.mk 6 false [] [] [] [c0, c1', c] []) s4
              else if tx s3.ts = [101, 108, 115, 101] then andT (listP n s3.nx) fun c s4 => andT (wantP [102, 105] s4) fun _ s5 => .ok (.mk 6 false [] [] [] [c0, c1', c] []) s5
              else andT (wantP [102, 105] s3) fun _ s4 => .ok (.mk 6 false [] [] [] [c0, c1'] []) s4) = R by rw [← HR3.out, hp]; rfl)
        obtain ⟨g3, h3, v, rfl, hv⟩ := hr
        obtain ⟨k, nt, a1, a2, a3, a4, a5, n1, n2, n3, n4, n5, c1, c2, c3, c4, c5, rfl, hc⟩ := hv.form
        have hB3 := HB.out.drew.call g3 h3 hAl
        have hs3 := g3.size
        have hb4 : Below w3.heap.size w3 (w3.alloc (.cells #[.int .i64 k, .bool nt, .slice a1 n1 c1, .slice a2 n2 c2, .slice a3 n3 c3, .slice a4 n4 c4, .slice a5 n5 c5] 28)) := (Below.refl _ _).alloc (Nat.le_refl _) _
        have hB4 := hB3.below hb4
        have hC3 : BxC bx 5 (.slice ka kn kcap) w3 := ⟨by rw [Lib.cell_of_heap hB3.box]; rfl⟩
        have hC4 : BxC bx 5 (.slice ka kn kcap) (w3.alloc (.cells #[.int .i64 k, .bool nt, .slice a1 n1 c1, .slice a2 n2 c2, .slice a3 n3 c3, .slice a4 n4 c4, .slice a5 n5 c5] 28)) := ⟨by rw [Lib.cell_of_heap hB4.box]; rfl⟩
        have hK4 : KidsS (w3.alloc (.cells #[.int .i64 k, .bool nt, .slice a1 n1 c1, .slice a2 n2 c2, .slice a3 n3 c3, .slice a4 n4 c4, .slice a5 n5 c5] 28)) (KS w bx) (.slice ka kn kcap) kc [c0] := (HK.out.kept fun g' hg' hl => g3.block g' hl fun e => by have := Option.some.inj e; have := hg'.1; omega).kept fun g' _ hl => hb4.block g' hl
        have hown := hK4.row.own
        rw [← HKn.out] at hown
        have hnew : ∀ (j : Nat) u, ([.int .i64 k, .bool nt, .slice a1 n1 c1, .slice a2 n2 c2, .slice a3 n3 c3, .slice a4 n4 c4, .slice a5 n5 c5] : List Value)[j]? = some u → (w3.alloc (.cells #[.int .i64 k, .bool nt, .slice a1 n1 c1, .slice a2 n2 c2, .slice a3 n3 c3, .slice a4 n4 c4, .slice a5 n5 c5] 28)).cell? ((⟨w3.heap.size, 0, none⟩ : Addr).add j) = some u := fun j u hj => by rw [Addr.add_lit, Nat.zero_add, Lib.cell_of_heap (heap_alloc_new w3 _)]; simpa using hj
        have HJ := hide' (And.intro hB3 (And.intro g3 hc))
        clear hB3 hB4 hK4 g3 h3 hc hv hb4 hp
        dsimp only
        refine ⟨hC3, ?_⟩
        refine wpAnyX_one (i := 4) (by kernel_rfl) (wpOp_wanted rfl (by rfl) ?_)
        go_simp
        obtain ⟨inf, hi, hz0, hz1, hz2⟩ := info_parts infoCmd
        refine wpAnyX_one (i := 5) (by kernel_rfl) (wpOp_wanted rfl (by rfl) ?_)
        refine wp_append_lies _ _ _ 25 rfl 0 28 inf _ 7 136 Tryz.underlying25 hi hz0 hz1 hz2 rfl (by decide) (.slice ka kn kcap) kn _ rfl hown ⟨w3.heap.size, 0, none⟩ 1 1 [.int .i64 k, .bool nt, .slice a1 n1 c1, .slice a2 n2 c2, .slice a3 n3 c3, .slice a4 n4 c4, .slice a5 n5 c5] rfl rfl hnew (by simp [Value.oneCell']) (by decide) (by unfold maxLen; omega) (by omega) (Nat.zero_le _) _ rfl ?_
        intro g cap w4 ho hg hat _
        clear hi hz0 hz1 hz2 hown hnew hC3 hC4
        obtain ⟨hB3, g3, hc⟩ := HJ.out
        rw [HKn.out] at ho
        obtain ⟨hB4, hB5, hK5⟩ := push_kid (w2 := wA.drew) hB3 (HK.out.kept fun _ _ _ => rfl) g3 hAl hlW hc ho hg hat
        have e5 : w4.cell? ⟨bx, 5, none⟩ = some (.slice ka kn kcap) := by rw [Lib.cell_of_heap hB4.box]; rfl
        have f5 := Lib.frozen_of_heap hB4.box 5
        rw [← HKn.out] at hB5 hK5
        have hC5 : BxC bx 5 (.slice ka kn kcap) w4 := ⟨e5⟩
        have HB5 := hide' hB5
        have HK5 := hide' hK5
        clear hB3 hB4 hB5 hK5 g3 hc ho hg hat HJ HB HK
        refine ⟨fun _ => hC5, ?_⟩
        refine wpAnyX_one (i := 6) (by kernel_rfl) (wpOp_wanted rfl (by rfl) ?_)
        go_simp
        refine wpAnyX_one (i := 7) (by kernel_rfl) (wpOp_wanted rfl (by rfl) ?_)
        go_simp
        refine wpAnyX_done (by kernel_rfl) ?_ _
        clear hC5 e5 f5
        obtain ⟨wB, hw5⟩ : ∃ w5, w5 = w4.setCell ⟨bx, 5, none⟩ (.slice (some ⟨g, 0, none⟩) (kn + 1) cap) := ⟨_, rfl⟩
        rw [← hw5] at HB5 HK5 ⊢
        clear hw5
        obtain ⟨ka, kn, kcap, kc, hB, hK, hkn, hk9⟩ : ∃ ka kn' kcap kc, BoxAt x w wB s3 bx #[.int .i64 6, .bool false, .slice none 0 0, .slice none 0 0, .slice none 0 0, .slice ka kn' kcap, .slice none 0 0] ∧ KidsS wB (KS w bx) (.slice ka kn' kcap) kc [c0, c1'] ∧ kn' = [c0, c1'].length ∧ kn' ≤ 9 := ⟨_, _, _, _, HB5.out, HK5.out, by rw [HKn.out]; rfl, by have h9 := HKn.out; simp at h9; omega⟩
        clear HB5 HK5 HKn
        have HKn := hide' hkn
        clear hkn
        clear HR3
        by_cases hel : tx s3.ts = [101, 108, 105, 102]
        · have HR5 := hide' (show (andT (choiceP n s3.nx) fun c s4 => .ok (.mk 6 false [] [] [] [c0, c1', c] []) s4) = R by rw [← HR4.out, if_pos hel])
          have q := pass_yes hB.ps [101, 108, 105, 102] (by simp) hel
          have HB := hide' hB
          have HK := hide' hK
          clear hB hK hel
          (try dsimp only)
          go_wp2_with fail
          refine q.mono ?_
          rintro e wC ⟨rfl, h1, g1⟩
          clear q
          have hB := HB.out
          have hK := HK.out
          clear HB HK
          replace hK : KidsS wC (KS w bx) (.slice ka kn kcap) kc [c0, c1'] := hK.kept fun g' hg' hl => g1.block g' hl fun e => by have := Option.some.inj e; have := hg'.1; omega
          replace hB := hB.call g1 h1 hAl
          clear g1 h1
          have HNo := hide' (show choiceP n s3.nx ≠ .out from fun e => HR.out.2 (by rw [← HR5.out, e]; rfl))
          have q := hCh wC.drew s3.nx hB.ps.drew HNo.out
          have hlW : bx < wC.drew.heap.size := lt_of_block hB.box
          have HB := hide' hB
          have HK := hide' hK
          clear hB hK
          (try dsimp only)
          go_upto_region 6 with fail
          refine wp_region_classX [7] (C := BxC bx 5 (.slice ka kn kcap)) (by kernel_rfl) ?_
          have hC : BxC bx 5 (.slice ka kn kcap) wC.drew := ⟨by rw [show wC.drew.cell? ⟨bx, 5, none⟩ = wC.cell? ⟨bx, 5, none⟩ from rfl, Lib.cell_of_heap HB.out.box]; rfl⟩
          (refine wpAnyX_take (i := 0) (v := ?_) hC rfl (by kernel_rfl) (by kernel_rfl) (by kernel_rfl) (by kernel_rfl) (fun _ _ _ h => h) (Or.inl ⟨by kernel_rfl, ?_⟩) ?_; rotate_left; (intro w hc; have k3 := hc.c; clear hc; go_simp; try with_reducible rfl))
          (refine wpAnyX_take (i := 1) (v := ?_) hC rfl (by kernel_rfl) (by kernel_rfl) (by kernel_rfl) (by kernel_rfl) (fun _ _ _ h => h) (Or.inl ⟨by kernel_rfl, ?_⟩) ?_; rotate_left; (intro w hc; have k3 := hc.c; clear hc; go_simp; try with_reducible rfl))
          (refine wpAnyX_take (i := 2) (v := ?_) hC rfl (by kernel_rfl) (by kernel_rfl) (by kernel_rfl) (by kernel_rfl) (fun _ _ _ h => h) (Or.inl ⟨by kernel_rfl, ?_⟩) ?_; rotate_left; (intro w hc; have k3 := hc.c; clear hc; go_simp; try with_reducible rfl))
          refine wpAnyX_one (i := 3) (by kernel_rfl) (wpOp_wanted rfl (by rfl) ?_)
          go_simp
          refine q.mono ?_
          rintro e w3 hr
          clear q hC
          cases hp : choiceP n s3.nx with
          | out => exact absurd hp HNo.out
          | bad =>
            rw [hp] at hr
            obtain rfl : R = .bad := by rw [← HR5.out, hp]; rfl
            obtain ⟨g3, b, p, rfl, hb⟩ := hr
            exact ⟨rfl, HB.out.gr.trans ((Gr.drew x _).trans g3), b, p, rfl, hb⟩
          | ok c s5 =>
            rw [hp] at hr
            obtain rfl : R = .ok (.mk 6 false [] [] [] [c0, c1', c] []) s5 := by rw [← HR5.out, hp]; rfl
            obtain ⟨g3, h3, v, rfl, hv⟩ := hr
            obtain ⟨k, nt, a1, a2, a3, a4, a5, n1, n2, n3, n4, n5, c1, c2, c3, c4, c5, rfl, hc⟩ := hv.form
            have hB3 := HB.out.drew.call g3 h3 hAl
            have hs3 := g3.size
            have hb4 : Below w3.heap.size w3 (w3.alloc (.cells #[.int .i64 k, .bool nt, .slice a1 n1 c1, .slice a2 n2 c2, .slice a3 n3 c3, .slice a4 n4 c4, .slice a5 n5 c5] 28)) := (Below.refl _ _).alloc (Nat.le_refl _) _
            have hB4 := hB3.below hb4
            have hC3 : BxC bx 5 (.slice ka kn kcap) w3 := ⟨by rw [Lib.cell_of_heap hB3.box]; rfl⟩
            have hC4 : BxC bx 5 (.slice ka kn kcap) (w3.alloc (.cells #[.int .i64 k, .bool nt, .slice a1 n1 c1, .slice a2 n2 c2, .slice a3 n3 c3, .slice a4 n4 c4, .slice a5 n5 c5] 28)) := ⟨by rw [Lib.cell_of_heap hB4.box]; rfl⟩
            have hK4 : KidsS (w3.alloc (.cells #[.int .i64 k, .bool nt, .slice a1 n1 c1, .slice a2 n2 c2, .slice a3 n3 c3, .slice a4 n4 c4, .slice a5 n5 c5] 28)) (KS w bx) (.slice ka kn kcap) kc [c0, c1'] := (HK.out.kept fun g' hg' hl => g3.block g' hl fun e => by have := Option.some.inj e; have := hg'.1; omega).kept fun g' _ hl => hb4.block g' hl
            have hown := hK4.row.own
            rw [← HKn.out] at hown
            have hnew : ∀ (j : Nat) u, ([.int .i64 k, .bool nt, .slice a1 n1 c1, .slice a2 n2 c2, .slice a3 n3 c3, .slice a4 n4 c4, .slice a5 n5 c5] : List Value)[j]? = some u → (w3.alloc (.cells #[.int .i64 k, .bool nt, .slice a1 n1 c1, .slice a2 n2 c2, .slice a3 n3 c3, .slice a4 n4 c4, .slice a5 n5 c5] 28)).cell? ((⟨w3.heap.size, 0, none⟩ : Addr).add j) = some u := fun j u hj => by rw [Addr.add_lit, Nat.zero_add, Lib.cell_of_heap (heap_alloc_new w3 _)]; simpa using hj
            have HJ := hide' (And.intro hB3 (And.intro g3 hc))
            clear hB3 hB4 hK4 g3 h3 hc hv hb4 hp
            dsimp only
            refine ⟨hC3, ?_⟩
            refine wpAnyX_one (i := 4) (by kernel_rfl) (wpOp_wanted rfl (by rfl) ?_)
            go_simp
            obtain ⟨inf, hi, hz0, hz1, hz2⟩ := info_parts infoCmd
            refine wpAnyX_one (i := 5) (by kernel_rfl) (wpOp_wanted rfl (by rfl) ?_)
            refine wp_append_lies _ _ _ 25 rfl 0 28 inf _ 7 136 Tryz.underlying25 hi hz0 hz1 hz2 rfl (by decide) (.slice ka kn kcap) kn _ rfl hown ⟨w3.heap.size, 0, none⟩ 1 1 [.int .i64 k, .bool nt, .slice a1 n1 c1, .slice a2 n2 c2, .slice a3 n3 c3, .slice a4 n4 c4, .slice a5 n5 c5] rfl rfl hnew (by simp [Value.oneCell']) (by decide) (by unfold maxLen; omega) (by omega) (Nat.zero_le _) _ rfl ?_
            intro g cap w4 ho hg hat _
            clear hi hz0 hz1 hz2 hown hnew hC3 hC4
            obtain ⟨hB3, g3, hc⟩ := HJ.out
            rw [HKn.out] at ho
            obtain ⟨hB4, hB5, hK5⟩ := push_kid (w2 := wC.drew) hB3 (HK.out.kept fun _ _ _ => rfl) g3 hAl hlW hc ho hg hat
            have e5 : w4.cell? ⟨bx, 5, none⟩ = some (.slice ka kn kcap) := by rw [Lib.cell_of_heap hB4.box]; rfl
            have f5 := Lib.frozen_of_heap hB4.box 5
            rw [← HKn.out] at hB5 hK5
            have hC5 : BxC bx 5 (.slice ka kn kcap) w4 := ⟨e5⟩
            have HB5 := hide' hB5
            have HK5 := hide' hK5
            clear hB3 hB4 hB5 hK5 g3 hc ho hg hat HJ HB HK
            refine ⟨fun _ => hC5, ?_⟩
            refine wpAnyX_one (i := 6) (by kernel_rfl) (wpOp_wanted rfl (by rfl) ?_)
            go_simp
            refine wpAnyX_one (i := 7) (by kernel_rfl) (wpOp_wanted rfl (by rfl) ?_)
            go_simp
            refine wpAnyX_done (by kernel_rfl) ?_ _
            clear hC5 e5 f5
            obtain ⟨w5, hw5⟩ : ∃ w5, w5 = w4.setCell ⟨bx, 5, none⟩ (.slice (some ⟨g, 0, none⟩) (kn + 1) cap) := ⟨_, rfl⟩
            rw [← hw5] at HB5 HK5 ⊢
            clear hw5
            have hB5 := HB5.out
            have HE := hide' (prr_end (v0 := .int .i64 6) (c := .mk 6 false [] [] [] [c0, c1', c] []) hB5.gr hB5.ps hB5.res ((HK5.out.mono (S' := fun g => w.heap.size + 1 ≤ g) fun g' hg' _ => hg'.1).cmd 6 false))
            obtain ⟨o0, o1, o2, o3, o4, o5, o6⟩ := cells7 hB5.box
            obtain ⟨r0, r1, r2, r3, r4, r5, r6⟩ := cells7 hB5.res
            obtain ⟨f0, f1, f2, f3, f4, f5, f6⟩ := fz7 hB5.res
            clear hB5 HB5 HK5 HKn
            go_wp2
            obtain ⟨hV, hbk⟩ := HE.out _ rfl
            obtain ⟨d0, d1, d2, d3, d4, d5, d6⟩ := cells7 hbk
            refine bodyPost_ret (v := .agg #[.int .i64 6, .bool false, .slice none 0 0, .slice none 0 0, .slice none 0 0, .slice (some ⟨g, 0, none⟩) (kn + 1) cap, .slice none 0 0]) (by simp [results, Tryz.results32, go_sem, d0, d1, d2, d3, d4, d5, d6]) rfl ?_
            exact hV
        · have HR5 := hide' (show (if tx s3.ts = [101, 108, 115, 101] then andT (listP n s3.nx) fun c s4 => andT (wantP [102, 105] s4) fun _ s5 => .ok (.mk 6 false [] [] [] [c0, c1', c] []) s5
                else andT (wantP [102, 105] s3) fun _ s4 => .ok (.mk 6 false [] [] [] [c0, c1'] []) s4) = R by rw [← HR4.out, if_neg hel])
          have q := pass_no hB.ps [101, 108, 105, 102] hel
          have HB := hide' hB
          have HK := hide' hK
          clear hB hK hel
          (try dsimp only)
          go_wp2_with fail
          refine q.mono ?_
          rintro e wC ⟨rfl, m, hwC⟩
          clear q
          have hB : BoxAt x w wC s3 bx #[.int .i64 6, .bool false, .slice none 0 0, .slice none 0 0, .slice none 0 0, .slice ka kn kcap, .slice none 0 0] := by rw [hwC]; exact HB.out.below (below_drewn m)
          have hK : KidsS wC (KS w bx) (.slice ka kn kcap) kc [c0, c1'] := by rw [hwC]; exact HK.out.kept fun _ _ _ => rfl
          clear hwC HB HK
          by_cases hes : tx s3.ts = [101, 108, 115, 101]
          · have HR6 := hide' (show (andT (listP n s3.nx) fun c s4 => andT (wantP [102, 105] s4) fun _ s5 => .ok (.mk 6 false [] [] [] [c0, c1', c] []) s5) = R by rw [← HR5.out, if_pos hes])
            have q := pass_yes hB.ps [101, 108, 115, 101] (by simp) hes
            have HB := hide' hB
            have HK := hide' hK
            clear hB hK hes
            (try dsimp only)
            go_wp2_with fail
            refine q.mono ?_
            rintro e wD ⟨rfl, h1, g1⟩
            clear q
            have hB := HB.out
            have hK := HK.out
            clear HB HK
            replace hK : KidsS wD (KS w bx) (.slice ka kn kcap) kc [c0, c1'] := hK.kept fun g' hg' hl => g1.block g' hl fun e => by have := Option.some.inj e; have := hg'.1; omega
            replace hB := hB.call g1 h1 hAl
            clear g1 h1
            have HNo := hide' (show listP n s3.nx ≠ .out from fun e => HR.out.2 (by rw [← HR6.out, e]; rfl))
            have q := hL wD.drew s3.nx hB.ps.drew HNo.out
            have hlW : bx < wD.drew.heap.size := lt_of_block hB.box
            have HB := hide' hB
            have HK := hide' hK
            clear hB hK
            (try dsimp only)
            go_upto_region 7 with fail
            refine wp_region_classX [7] (C := BxC bx 5 (.slice ka kn kcap)) (by kernel_rfl) ?_
            have hC : BxC bx 5 (.slice ka kn kcap) wD.drew := ⟨by rw [show wD.drew.cell? ⟨bx, 5, none⟩ = wD.cell? ⟨bx, 5, none⟩ from rfl, Lib.cell_of_heap HB.out.box]; rfl⟩
            (refine wpAnyX_take (i := 0) (v := ?_) hC rfl (by kernel_rfl) (by kernel_rfl) (by kernel_rfl) (by kernel_rfl) (fun _ _ _ h => h) (Or.inl ⟨by kernel_rfl, ?_⟩) ?_; rotate_left; (intro w hc; have k3 := hc.c; clear hc; go_simp; try with_reducible rfl))
            (refine wpAnyX_take (i := 1) (v := ?_) hC rfl (by kernel_rfl) (by kernel_rfl) (by kernel_rfl) (by kernel_rfl) (fun _ _ _ h => h) (Or.inl ⟨by kernel_rfl, ?_⟩) ?_; rotate_left; (intro w hc; have k3 := hc.c; clear hc; go_simp; try with_reducible rfl))
            (refine wpAnyX_take (i := 2) (v := ?_) hC rfl (by kernel_rfl) (by kernel_rfl) (by kernel_rfl) (by kernel_rfl) (fun _ _ _ h => h) (Or.inl ⟨by kernel_rfl, ?_⟩) ?_; rotate_left; (intro w hc; have k3 := hc.c; clear hc; go_simp; try with_reducible rfl))
            refine wpAnyX_one (i := 3) (by kernel_rfl) (wpOp_wanted rfl (by rfl) ?_)
            go_simp
            refine q.mono ?_
            rintro e w3 hr
            clear q hC
            cases hp : listP n s3.nx with
            | out => exact absurd hp HNo.out
            | bad =>
              rw [hp] at hr
              obtain rfl : R = .bad := by rw [← HR6.out, hp]; rfl
              obtain ⟨g3, b, p, rfl, hb⟩ := hr
              exact ⟨rfl, HB.out.gr.trans ((Gr.drew x _).trans g3), b, p, rfl, hb⟩
            | ok c s5 =>
              rw [hp] at hr
              have HRF := hide' (show (andT (wantP [102, 105] s5) fun _ s6 => .ok (.mk 6 false [] [] [] [c0, c1', c] []) s6) = R by rw [← HR6.out, hp]; rfl)
              obtain ⟨g3, h3, v, rfl, hv⟩ := hr
              obtain ⟨k, nt, a1, a2, a3, a4, a5, n1, n2, n3, n4, n5, c1, c2, c3, c4, c5, rfl, hc⟩ := hv.form
              have hB3 := HB.out.drew.call g3 h3 hAl
              have hs3 := g3.size
              have hb4 : Below w3.heap.size w3 (w3.alloc (.cells #[.int .i64 k, .bool nt, .slice a1 n1 c1, .slice a2 n2 c2, .slice a3 n3 c3, .slice a4 n4 c4, .slice a5 n5 c5] 28)) := (Below.refl _ _).alloc (Nat.le_refl _) _
              have hB4 := hB3.below hb4
              have hC3 : BxC bx 5 (.slice ka kn kcap) w3 := ⟨by rw [Lib.cell_of_heap hB3.box]; rfl⟩
              have hC4 : BxC bx 5 (.slice ka kn kcap) (w3.alloc (.cells #[.int .i64 k, .bool nt, .slice a1 n1 c1, .slice a2 n2 c2, .slice a3 n3 c3, .slice a4 n4 c4, .slice a5 n5 c5] 28)) := ⟨by rw [Lib.cell_of_heap hB4.box]; rfl⟩
              have hK4 : KidsS (w3.alloc (.cells #[.int .i64 k, .bool nt, .slice a1 n1 c1, .slice a2 n2 c2, .slice a3 n3 c3, .slice a4 n4 c4, .slice a5 n5 c5] 28)) (KS w bx) (.slice ka kn kcap) kc [c0, c1'] := (HK.out.kept fun g' hg' hl => g3.block g' hl fun e => by have := Option.some.inj e; have := hg'.1; omega).kept fun g' _ hl => hb4.block g' hl
              have hown := hK4.row.own
              rw [← HKn.out] at hown
              have hnew : ∀ (j : Nat) u, ([.int .i64 k, .bool nt, .slice a1 n1 c1, .slice a2 n2 c2, .slice a3 n3 c3, .slice a4 n4 c4, .slice a5 n5 c5] : List Value)[j]? = some u → (w3.alloc (.cells #[.int .i64 k, .bool nt, .slice a1 n1 c1, .slice a2 n2 c2, .slice a3 n3 c3, .slice a4 n4 c4, .slice a5 n5 c5] 28)).cell? ((⟨w3.heap.size, 0, none⟩ : Addr).add j) = some u := fun j u hj => by rw [Addr.add_lit, Nat.zero_add, Lib.cell_of_heap (heap_alloc_new w3 _)]; simpa using hj
              have HJ := hide' (And.intro hB3 (And.intro g3 hc))
              clear hB3 hB4 hK4 g3 h3 hc hv hb4 hp
              dsimp only
              refine ⟨hC3, ?_⟩
              refine wpAnyX_one (i := 4) (by kernel_rfl) (wpOp_wanted rfl (by rfl) ?_)
              go_simp
              obtain ⟨inf, hi, hz0, hz1, hz2⟩ := info_parts infoCmd
              refine wpAnyX_one (i := 5) (by kernel_rfl) (wpOp_wanted rfl (by rfl) ?_)
              refine wp_append_lies _ _ _ 25 rfl 0 28 inf _ 7 136 Tryz.underlying25 hi hz0 hz1 hz2 rfl (by decide) (.slice ka kn kcap) kn _ rfl hown ⟨w3.heap.size, 0, none⟩ 1 1 [.int .i64 k, .bool nt, .slice a1 n1 c1, .slice a2 n2 c2, .slice a3 n3 c3, .slice a4 n4 c4, .slice a5 n5 c5] rfl rfl hnew (by simp [Value.oneCell']) (by decide) (by unfold maxLen; omega) (by omega) (Nat.zero_le _) _ rfl ?_
              intro g cap w4 ho hg hat _
              clear hi hz0 hz1 hz2 hown hnew hC3 hC4
              obtain ⟨hB3, g3, hc⟩ := HJ.out
              rw [HKn.out] at ho
              obtain ⟨hB4, hB5, hK5⟩ := push_kid (w2 := wD.drew) hB3 (HK.out.kept fun _ _ _ => rfl) g3 hAl hlW hc ho hg hat
              have e5 : w4.cell? ⟨bx, 5, none⟩ = some (.slice ka kn kcap) := by rw [Lib.cell_of_heap hB4.box]; rfl
              have f5 := Lib.frozen_of_heap hB4.box 5
              rw [← HKn.out] at hB5 hK5
              have hC5 : BxC bx 5 (.slice ka kn kcap) w4 := ⟨e5⟩
              have HB5 := hide' hB5
              have HK5 := hide' hK5
              clear hB3 hB4 hB5 hK5 g3 hc ho hg hat HJ HB HK
              refine ⟨fun _ => hC5, ?_⟩
              refine wpAnyX_one (i := 6) (by kernel_rfl) (wpOp_wanted rfl (by rfl) ?_)
              go_simp
              refine wpAnyX_one (i := 7) (by kernel_rfl) (wpOp_wanted rfl (by rfl) ?_)
              go_simp
              refine wpAnyX_done (by kernel_rfl) ?_ _
              clear hC5 e5 f5
              obtain ⟨wE, hw5⟩ : ∃ w5, w5 = w4.setCell ⟨bx, 5, none⟩ (.slice (some ⟨g, 0, none⟩) (kn + 1) cap) := ⟨_, rfl⟩
              rw [← hw5] at HB5 HK5 ⊢
              clear hw5
              obtain ⟨ka, kn, kcap, kc, hB, hK, hkn, hk9⟩ : ∃ ka kn' kcap kc, BoxAt x w wE s5 bx #[.int .i64 6, .bool false, .slice none 0 0, .slice none 0 0, .slice none 0 0, .slice ka kn' kcap, .slice none 0 0] ∧ KidsS wE (KS w bx) (.slice ka kn' kcap) kc [c0, c1', c] ∧ kn' = [c0, c1', c].length ∧ kn' ≤ 9 := ⟨_, _, _, _, HB5.out, HK5.out, by rw [HKn.out]; rfl, by have h9 := HKn.out; simp at h9; omega⟩
              clear HB5 HK5 HKn
              have HKn := hide' hkn
              clear hkn
              by_cases hwf : tx s5.ts = [102, 105]
              · have q := want_yes hB.ps [102, 105] (by simp) hwf
                obtain rfl : R = .ok (.mk 6 false [] [] [] [c0, c1', c] []) s5.nx := by rw [← HRF.out]; simp [andT, wantP, hwf]
                have HB := hide' hB
                have HK := hide' hK
                clear hB hK hwf
                (try dsimp only)
                go_wp2_with fail
                refine q.mono ?_
                rintro e wF ⟨rfl, h1, g1⟩
                clear q
                have hB := HB.out
                have hK := HK.out
                clear HB HK
                replace hK : KidsS wF (KS w bx) (.slice ka kn kcap) kc [c0, c1', c] := hK.kept fun g' hg' hl => g1.block g' hl fun e => by have := Option.some.inj e; have := hg'.1; omega
                replace hB := hB.call g1 h1 hAl
                clear g1 h1
                have HE := hide' (prr_end (v0 := .int .i64 6) (c := .mk 6 false [] [] [] [c0, c1', c] []) hB.gr hB.ps hB.res ((hK.mono (S' := fun g => w.heap.size + 1 ≤ g) fun g' hg' _ => hg'.1).cmd 6 false))
                obtain ⟨o0, o1, o2, o3, o4, o5, o6⟩ := cells7 hB.box
                obtain ⟨r0, r1, r2, r3, r4, r5, r6⟩ := cells7 hB.res
                obtain ⟨f0, f1, f2, f3, f4, f5, f6⟩ := fz7 hB.res
                clear hB hK HKn
                (try dsimp only)
                go_wp2
                obtain ⟨hV, hbk⟩ := HE.out _ rfl
                obtain ⟨d0, d1, d2, d3, d4, d5, d6⟩ := cells7 hbk
                refine bodyPost_ret (v := .agg #[.int .i64 6, .bool false, .slice none 0 0, .slice none 0 0, .slice none 0 0, .slice ka kn kcap, .slice none 0 0]) (by simp [results, Tryz.results32, go_sem, d0, d1, d2, d3, d4, d5, d6]) rfl ?_
                exact hV
              · have q := want_no hB.ps [102, 105] hwf
                obtain rfl : R = .bad := by rw [← HRF.out]; simp [andT, wantP, hwf]
                have HG := hide' hB.gr
                clear hB hK hwf
                (try dsimp only)
                go_wp2_with fail
                refine q.mono ?_
                rintro e wF ⟨g1, b, p, rfl, hb⟩
                exact ⟨rfl, HG.out.trans g1, b, p, rfl, hb⟩
          · have HRF := hide' (show (andT (wantP [102, 105] s3) fun _ s4 => .ok (.mk 6 false [] [] [] [c0, c1'] []) s4) = R by rw [← HR5.out, if_neg hes])
            have q := pass_no hB.ps [101, 108, 115, 101] hes
            have HB := hide' hB
            have HK := hide' hK
            clear hB hK hes
            (try dsimp only)
            go_wp2_with fail
            refine q.mono ?_
            rintro e wD ⟨rfl, m, hwC⟩
            clear q
            have hB : BoxAt x w wD s3 bx #[.int .i64 6, .bool false, .slice none 0 0, .slice none 0 0, .slice none 0 0, .slice ka kn kcap, .slice none 0 0] := by rw [hwC]; exact HB.out.below (below_drewn m)
            have hK : KidsS wD (KS w bx) (.slice ka kn kcap) kc [c0, c1'] := by rw [hwC]; exact HK.out.kept fun _ _ _ => rfl
            clear hwC HB HK
            by_cases hwf : tx s3.ts = [102, 105]
            · have q := want_yes hB.ps [102, 105] (by simp) hwf
              obtain rfl : R = .ok (.mk 6 false [] [] [] [c0, c1'] []) s3.nx := by rw [← HRF.out]; simp [andT, wantP, hwf]
              have HB := hide' hB
              have HK := hide' hK
              clear hB hK hwf
              (try dsimp only)
              go_wp2_with fail
              refine q.mono ?_
              rintro e wE ⟨rfl, h1, g1⟩
              clear q
              have hB := HB.out
              have hK := HK.out
              clear HB HK
              replace hK : KidsS wE (KS w bx) (.slice ka kn kcap) kc [c0, c1'] := hK.kept fun g' hg' hl => g1.block g' hl fun e => by have := Option.some.inj e; have := hg'.1; omega
              replace hB := hB.call g1 h1 hAl
              clear g1 h1
              have HE := hide' (prr_end (v0 := .int .i64 6) (c := .mk 6 false [] [] [] [c0, c1'] []) hB.gr hB.ps hB.res ((hK.mono (S' := fun g => w.heap.size + 1 ≤ g) fun g' hg' _ => hg'.1).cmd 6 false))
              obtain ⟨o0, o1, o2, o3, o4, o5, o6⟩ := cells7 hB.box
              obtain ⟨r0, r1, r2, r3, r4, r5, r6⟩ := cells7 hB.res
              obtain ⟨f0, f1, f2, f3, f4, f5, f6⟩ := fz7 hB.res
              clear hB hK HKn
              (try dsimp only)
              go_wp2
              obtain ⟨hV, hbk⟩ := HE.out _ rfl
              obtain ⟨d0, d1, d2, d3, d4, d5, d6⟩ := cells7 hbk
              refine bodyPost_ret (v := .agg #[.int .i64 6, .bool false, .slice none 0 0, .slice none 0 0, .slice none 0 0, .slice ka kn kcap, .slice none 0 0]) (by simp [results, Tryz.results32, go_sem, d0, d1, d2, d3, d4, d5, d6]) rfl ?_
              exact hV
            · have q := want_no hB.ps [102, 105] hwf
              obtain rfl : R = .bad := by rw [← HRF.out]; simp [andT, wantP, hwf]
              have HG := hide' hB.gr
              clear hB hK hwf
              (try dsimp only)
              go_wp2_with fail
              refine q.mono ?_
              rintro e wE ⟨g1, b, p, rfl, hb⟩
              exact ⟨rfl, HG.out.trans g1, b, p, rfl, hb⟩
    · have q := want_no HB.out.ps [116, 104, 101, 110] hwt
      obtain rfl : R = .bad := by rw [← HR2.out]; simp only [andT, wantP, if_neg hwt]
      clear hwt HK
      dsimp only
      go_wp2_with fail
      rw [← HW2.out]
      refine q.mono ?_
      rintro e w4 ⟨g4, b, p, rfl, hb⟩
      exact ⟨rfl, HB.out.gr.trans g4, b, p, rfl, hb⟩
end Go.Proofs.YtcemlhfodpelaaaGreatDoor
