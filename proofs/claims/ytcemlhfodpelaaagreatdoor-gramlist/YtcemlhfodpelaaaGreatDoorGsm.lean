/- simple. -/
import Derived.Test.YtcemlhfodpelaaaGreatDoorZa
namespace Go.Proofs.YtcemlhfodpelaaaGreatDoor
open Go.RowKit

theorem giveUp_prr {x : Cx} {w w1 : World} {s : PS} {V : World → Cd → Value → Prop} (h : PsAt w1 x s) (hg : Gr x w w1) : Calls Tryz.prog 39 #[ptr x.A, .int .i64 31] w1 fun e w' => PrR x w (.bad : PR Cd) V e w' :=
  (giveUp_any h 31).mono fun _ _ ⟨g, b, p, he, hb⟩ => ⟨hg.trans g, b, p, he, hb⟩
theorem tx_len {x : Cx} {w : World} {s : PS} {N : Nat} (h : PsAt w x s) (hx : ∀ t ∈ x.tk, t.2.length ≤ N) : (tx s.ts).length ≤ N := by
  obtain ⟨p, h⟩ := h
  exact hx _ (List.mem_of_getElem? h.tok)
theorem glo_cell {x : Cx} {w : World} {s : PS} (h : PsAt w x s) : ∃ m, w.cell? ⟨1, 0, none⟩ = some (.int .i64 m) := by
  obtain ⟨p, h⟩ := h
  obtain ⟨cs, m, h1, h2⟩ := h.glo
  exact ⟨m, by rw [Lib.cell_of_heap h1]; exact h2⟩
set_option maxRecDepth 100000 in
set_option maxHeartbeats 8000000 in
theorem simple_step {x : Cx} {n : Nat} (hn : n ≤ 1000000) (hxl : ∀ t ∈ x.tk, t.2.length ≤ 100000) (w : World) (s : PS) (h : PsAt w x s) (R : PR Cd) (hR : (if endsB (tx s.ts) = true ∨ tx s.ts = [33] then .bad else simpleP n false [] [] [] s) = R) (hne : R ≠ .out) : Calls Tryz.prog 139 #[ptr x.A] w (PrR x w R (CmdV w.heap.size)) := by
  have hAl := h.lt
  obtain ⟨W, hW, h0, g0, z0, s0⟩ := res_laid h
  have HW := hide' hW
  have q := ends_any h0
  have HR := hide' hR
  have HH := hide' (And.intro h0 (And.intro g0 (And.intro z0 s0)))
  obtain ⟨eb, heb⟩ : ∃ eb, endsB (tx s.ts) = eb := ⟨_, rfl⟩
  rw [heb] at q
  have HEB := hide' heb
  clear hW h0 g0 z0 s0 h hR heb
  go_enter Tryz.func139, Tryz.ntmps139
  go_wp2_with fail
  rw [← HW.out]
  refine q.mono ?_
  rintro e w1 ⟨rfl, m1, hw1⟩
  clear q
  obtain ⟨h0, g0, z0, s0⟩ := HH.out
  have h1 : PsAt w1 x s := by rw [hw1]; exact h0.drewN m1
  have g1 : Gr x w w1 := by rw [hw1]; exact g0.trans (Gr.drewN x _ m1)
  have z1 : w1.heap[w.heap.size]? = some (.cells zeroC 28 (0, 0)) := by rw [hw1]; exact z0
  have hs1 : w.heap.size + 1 ≤ w1.heap.size := by rw [hw1]; exact Nat.le_of_eq s0.symm
  clear hw1 h0 g0 z0 HH s0
  cases eb with
  | true =>
    obtain rfl : R = .bad := by rw [← HR.out, if_pos (.inl HEB.out)]
    have q := giveUp_prr (V := CmdV w.heap.size) h1 g1
    clear h1 g1 z1
    dsimp only
    go_wp2_with fail
    refine q.mono ?_
    rintro e w2 ⟨g2, b, p, rfl, hb⟩
    exact ⟨rfl, g2, b, p, rfl, hb⟩
  | false =>
    have q := text_any h1
    have HK := hide' (And.intro h1 (And.intro g1 z1))
    obtain ⟨tt, htt⟩ : ∃ tt, tx s.ts = tt := ⟨_, rfl⟩
    rw [htt] at q
    have HT := hide' htt
    clear h1 g1 z1 htt
    dsimp only
    go_wp2_with fail
    refine q.mono ?_
    rintro e w2 ⟨rfl, m2, hw2⟩
    clear q
    obtain ⟨h1, g1, z1⟩ := HK.out
    have h2 : PsAt w2 x s := by rw [hw2]; exact h1.drewN m2
    have g2 : Gr x w w2 := by rw [hw2]; exact g1.trans (Gr.drewN x _ m2)
    have z2 : w2.heap[w.heap.size]? = some (.cells zeroC 28 (0, 0)) := by rw [hw2]; exact z1
    have hs2 : w.heap.size + 1 ≤ w2.heap.size := by rw [hw2]; exact hs1
    clear hw2 h1 g1 z1 HK
    by_cases h33 : tt = [33]
    · obtain rfl : R = .bad := by rw [← HR.out, if_pos (.inr (by rw [HT.out]; exact h33))]
      have q := giveUp_prr (V := CmdV w.heap.size) h2 g2
      subst h33
      clear h2 g2 z2
      dsimp only
      go_wp2_with fail
      refine q.mono ?_
      rintro e w3 ⟨g3, b, p, rfl, hb⟩
      exact ⟨rfl, g3, b, p, rfl, hb⟩
    · have h33' : (tt == [33]) = false := beq_eq_false_iff_ne.2 h33
      have HR2 := hide' (show simpleP n false [] [] [] s = R by rw [← HR.out, if_neg (by rw [HEB.out, HT.out]; simp [h33])])
      obtain ⟨p0, hp0⟩ := h2
      obtain ⟨w3, hw3⟩ : ∃ w3, w3 = w2.alloc (.cells #[.int .i64 1, .bool false, .slice none 0 0, .slice none 0 0, .slice none 0 0, .slice none 0 0, .slice none 0 0] 28) := ⟨_, rfl⟩
      have hb3 : Below w2.heap.size w2 w3 := by rw [hw3]; exact (Below.refl _ _).alloc (Nat.le_refl _) _
      have zb : w3.heap[w2.heap.size]? = some (.cells #[.int .i64 1, .bool false, .slice none 0 0, .slice none 0 0, .slice none 0 0, .slice none 0 0, .slice none 0 0] 28 (0, 0)) := by rw [hw3]; exact heap_alloc_new w2 _
      have hp3 := hp0.below hb3
      have hB3 : BoxAt x w w3 s w2.heap.size #[.int .i64 1, .bool false, .slice none 0 0, .slice none 0 0, .slice none 0 0, .slice none 0 0, .slice none 0 0] := ⟨⟨p0, hp3⟩, g2.trans (Gr.of_below hb3), (hb3.block _ (lt_of_block z2)).trans z2, zb, by omega⟩
      have HS := hide' (show SmAt x w w3 s w2.heap.size none 0 0 none 0 0 none 0 0 [] [] [] from ⟨hB3, RowS.nil _ _ _ _, RowS.nil _ _ _ _, RowS.nil _ _ _ _, rfl, rfl, rfl, fun b e => by cases e⟩)
      have hs3 : w2.heap.size + 1 ≤ w3.heap.size := by rw [hw3]; simp
      have hpl0 := psp_len hp0
      have k1 := hp3.fields.2.1
      obtain ⟨bx, hbx⟩ : ∃ bx, bx = w2.heap.size := ⟨_, rfl⟩
      have hbl : w.heap.size < bx := by omega
      have HP0 := hide' hpl0
      have HW3 := hide' hw3
      clear hb3 zb hp3 hB3 hp0 g2 z2 hw3 h33 HR HT HEB hpl0
      dsimp only
      go_upto_region 4 with fail
      rw [← HW3.out]
      go_wp2_with fail
      rw [← hbx] at HS ⊢
      clear hbx k1
      go_loopg [] n (fun gk wr => gk ≤ n ∧ ∃ s' aa an ac wa wn wc ra rn rc ag ws rs, ∃ b : Bool, SmAt x w wr s' bx aa an ac wa wn wc ra rn rc ag ws rs ∧ (b = false → s'.ts.length = s.ts.length) ∧ (b = true → s'.ts.length < s.ts.length) ∧ an + gk ≤ n ∧ wn + gk ≤ n ∧ rn + gk ≤ n ∧ simpleP gk b ag ws rs s' = R)
      case atStart => exact ⟨Nat.le_refl _, s, none, 0, 0, none, 0, 0, none, 0, 0, [], [], [], false, HS.out, fun _ => rfl, (fun e => by cases e), by omega, by omega, by omega, HR2.out⟩
      obtain ⟨hgk, s4, aa, an, ac, wa, wn, wc, ra, rn, rc, ag, ws, rs, b, hS, hb0, hb1, hba, hbw, hbr, hRL⟩ := hrel
      have hBs := lt_of_block hS.box.box
      have HBB := hide' (And.intro hb0 hb1)
      clear HS HR2 hb0 hb1
      cases gk with
      | zero => exact absurd (by rw [← hRL]; rfl) hne
      | succ gk' =>
      rw [simpleP] at hRL
      have HR2 := hide' hRL
      have q := atRedir_any hS.box.ps
      have HS0 := hide' hS
      obtain ⟨rb, hrb⟩ : ∃ rb, redB (tx s4.ts) = rb := ⟨_, rfl⟩
      rw [hrb] at q
      have HRB := hide' hrb
      clear hS hRL hrb
      go_wp2_with fail
      refine q.mono ?_
      rintro e w5 ⟨rfl, m5, hw5⟩
      clear q
      have hS5 := HS0.out.drewN m5
      rw [← hw5] at hS5
      have hs5 : wr.heap.size = w5.heap.size := by rw [hw5]; rfl
      clear hw5 HS0
      cases rb with
      | true =>
        have HR3 := hide' (show (andT (redirP s4) fun r s' => simpleP gk' true ag ws (rs ++ [r]) s') = R by rw [← HR2.out, if_pos HRB.out])
        have htx : tx s4.ts ≠ [] := fun e => by have := HRB.out; rw [e] at this; revert this; decide
        have HNo := hide' (show redirP s4 ≠ .out from fun e => hne (by rw [← HR3.out, e]; rfl))
        have q := redir_step w5.drew s4 hS5.box.ps.drew htx
        have hlW : bx < w5.drew.heap.size := by show _ < w5.heap.size; omega
        have HNE := hide' hS5.box.ps.good.ne
        have HB := hide' hS5.box
        have HRo := hide' hS5.rowR
        have HS := hide' hS5
        clear hS5 htx HR2
        dsimp only
        go_upto_region 7 with fail
        refine wp_region_classX [7] (C := BxC bx 4 (.slice ra rn rc)) (by kernel_rfl) ?_
        have hC : BxC bx 4 (.slice ra rn rc) w5.drew := ⟨by rw [show w5.drew.cell? ⟨bx, 4, none⟩ = w5.cell? ⟨bx, 4, none⟩ from rfl, Lib.cell_of_heap HB.out.box]; rfl⟩
        (refine wpAnyX_take (i := 0) (v := ?_) hC rfl (by kernel_rfl) (by kernel_rfl) (by kernel_rfl) (by kernel_rfl) (fun _ _ _ h => h) (Or.inl ⟨by kernel_rfl, ?_⟩) ?_; rotate_left; (intro w hc; have k3 := hc.c; clear hc; go_simp; try with_reducible rfl))
        (refine wpAnyX_take (i := 1) (v := ?_) hC rfl (by kernel_rfl) (by kernel_rfl) (by kernel_rfl) (by kernel_rfl) (fun _ _ _ h => h) (Or.inl ⟨by kernel_rfl, ?_⟩) ?_; rotate_left; (intro w hc; have k3 := hc.c; clear hc; go_simp; try with_reducible rfl))
        (refine wpAnyX_take (i := 2) (v := ?_) hC rfl (by kernel_rfl) (by kernel_rfl) (by kernel_rfl) (by kernel_rfl) (fun _ _ _ h => h) (Or.inl ⟨by kernel_rfl, ?_⟩) ?_; rotate_left; (intro w hc; have k3 := hc.c; clear hc; go_simp; try with_reducible rfl))
        refine wpAnyX_one (i := 3) (by kernel_rfl) (wpOp_wanted rfl (by rfl) ?_)
        go_simp
        refine q.mono ?_
        rintro e w3 hr
        clear q hC
        cases hp : redirP s4 with
        | out => exact absurd hp HNo.out
        | bad =>
          rw [hp] at hr
          obtain rfl : R = .bad := by rw [← HR3.out, hp]; rfl
          obtain ⟨g3, b, p, rfl, hb⟩ := hr
          exact ⟨rfl, HB.out.gr.trans ((Gr.drew _ _).trans g3), b, p, rfl, hb⟩
        | ok rr s9 =>
          rw [hp] at hr
          have HR4 := hide' (show simpleP gk' true ag ws (rs ++ [rr]) s9 = R by rw [← HR3.out, hp]; rfl)
          have HL9 := hide' (redir_len hp HNE.out)
          obtain ⟨g3, h3, v, rfl, hv⟩ := hr
          obtain rfl : v = .agg #[.string (mk rr.1), .string (mk rr.2)] := hv
          have hB3 := HB.out.drew.call g3 h3 hAl
          have hs3 := g3.size
          have hb4 : Below w3.heap.size w3 (w3.alloc (.cells #[.string (mk rr.1), .string (mk rr.2)] 65)) := (Below.refl _ _).alloc (Nat.le_refl _) _
          have hB4 := hB3.below hb4
          have hC3 : BxC bx 4 (.slice ra rn rc) w3 := ⟨by rw [Lib.cell_of_heap hB3.box]; rfl⟩
          have hC4 : BxC bx 4 (.slice ra rn rc) (w3.alloc (.cells #[.string (mk rr.1), .string (mk rr.2)] 65)) := ⟨by rw [Lib.cell_of_heap hB4.box]; rfl⟩
          have hR4 : RowS (w3.alloc (.cells #[.string (mk rr.1), .string (mk rr.2)] 65)) (KS w bx) 65 2 (.slice ra rn rc) rn (rs.flatMap redC) := (HRo.out.kept fun g' hg' hl => g3.block g' hl fun e => by have h0 := Option.some.inj e; (try dsimp only at h0); have := hg'.1; omega).kept fun g' _ hl => hb4.block g' hl
          have hown := hR4.own
          have hnew : ∀ (j : Nat) u, ([.string (mk rr.1), .string (mk rr.2)] : List Value)[j]? = some u → (w3.alloc (.cells #[.string (mk rr.1), .string (mk rr.2)] 65)).cell? ((⟨w3.heap.size, 0, none⟩ : Addr).add j) = some u := fun j u hj => by rw [Addr.add_lit, Nat.zero_add, Lib.cell_of_heap (heap_alloc_new w3 _)]; simpa using hj
          have HJ := hide' (And.intro hB3 g3)
          clear hB3 hB4 hR4 g3 h3 hb4 hp
          dsimp only
          refine ⟨hC3, ?_⟩
          refine wpAnyX_one (i := 4) (by kernel_rfl) (wpOp_wanted rfl (by rfl) ?_)
          go_simp
          obtain ⟨inf, hi, hz0, hz1, hz2⟩ := info_parts infoRed
          refine wpAnyX_one (i := 5) (by kernel_rfl) (wpOp_wanted rfl (by rfl) ?_)
          refine wp_append_lies _ _ _ 24 rfl 0 65 inf _ 2 32 Tryz.underlying24 hi hz0 hz1 hz2 rfl (by decide) (.slice ra rn rc) rn (rs.flatMap redC) rfl hown ⟨w3.heap.size, 0, none⟩ 1 1 [.string (mk rr.1), .string (mk rr.2)] rfl rfl hnew (by simp [Value.oneCell']) (by decide) (by unfold maxLen; omega) (by omega) (Nat.zero_le _) _ rfl ?_
          intro g cap w4 ho hg hat _
          clear hi hz0 hz1 hz2 hown hnew hC3 hC4
          obtain ⟨hB3, g3⟩ := HJ.out
          obtain ⟨hB4, hB5, hR5, hkp, hap⟩ := push_row (w2 := w5.drew) (f := 4) hB3 (HRo.out.kept fun _ _ _ => rfl) (by decide) g3 hAl hlW ho hg hat
          have e5 : w4.cell? ⟨bx, 4, none⟩ = some (.slice ra rn rc) := by rw [Lib.cell_of_heap hB4.box]; rfl
          have f5 := Lib.frozen_of_heap hB4.box 4
          have hC5 : BxC bx 4 (.slice ra rn rc) w4 := ⟨e5⟩
          have HB5 := hide' hB5
          have HR5 := hide' hR5
          have HKP := hide' (And.intro hkp hap)
          clear hB3 hB4 hB5 hR5 g3 ho hg hat HJ HB HRo hkp hap
          refine ⟨fun _ => hC5, ?_⟩
          refine wpAnyX_one (i := 6) (by kernel_rfl) (wpOp_wanted rfl (by rfl) ?_)
          go_simp
          refine wpAnyX_one (i := 7) (by kernel_rfl) (wpOp_wanted rfl (by rfl) ?_)
          go_simp
          refine wpAnyX_done (by kernel_rfl) ?_ _
          clear hC5 e5 f5
          have hS5 : SmAt x w _ s9 bx aa an ac wa wn wc (some ⟨g, 0, none⟩) (rn + 1) cap ag ws (rs ++ [rr]) := ⟨HB5.out,
            HS.out.rowA.keptO fun b e h1 h2 => HKP.out.1 b h1 h2 (row_ne HS.out.rowA HS.out.rowR (by decide) b e),
            HS.out.rowW.keptO fun b e h1 h2 => HKP.out.1 b h1 h2 (row_ne HS.out.rowW HS.out.rowR (by decide) b e),
            by have h := HR5.out; rw [List.flatMap_append]; simpa [redC] using h, HS.out.la, HS.out.lw, by rw [HS.out.lr]; simp, HS.out.apart⟩
          have HS5 := hide' hS5
          clear hS5 HB5 HR5 HKP
          go_wp2_with fail
          go_roundg gk'
          case rel => exact ⟨by omega, s9, aa, an, ac, wa, wn, wc, some ⟨g, 0, none⟩, rn + 1, cap, ag, ws, rs ++ [rr], true, HS5.out, (fun e => by cases e), (fun _ => by
            have h1 := HL9.out
            cases b with
            | true => have := HBB.out.2 rfl; omega
            | false => have := HBB.out.1 rfl; omega), by omega, by omega, by omega, HR4.out⟩
          case measure => omega
      | false =>
        have HRB' := hide' (show ¬ redB (tx s4.ts) = true by rw [HRB.out]; decide)
        have q := atWord_any hS5.box.ps
        have HS := hide' hS5
        clear hS5
        by_cases hkd : kd s4.ts = 1
        · rw [decide_eq_true hkd] at q
          have HKD := hide' hkd
          clear hkd
          have HR3 := hide' (show (if ws = [] ∧ assignB (tx s4.ts) = true then simpleP gk' true (ag ++ [tx s4.ts]) ws rs s4.nx else simpleP gk' true ag (ws ++ [tx s4.ts]) rs s4.nx) = R by rw [← HR2.out, if_neg HRB'.out, if_pos HKD.out])
          have hw0e := HS.out.lw
          dsimp only
          go_wp2_with fail
          refine q.mono ?_
          rintro e w6 ⟨rfl, m6, hw6⟩
          clear q
          have hS6 := HS.out.drewN m6
          rw [← hw6] at hS6
          have hs6 : w5.heap.size = w6.heap.size := by rw [hw6]; rfl
          clear hw6 HS
          obtain ⟨o0, o1, o2, o3, o4, o5, o6⟩ := cells7 hS6.box.box
          by_cases hw0 : wn = 0
          · subst hw0
            have hws : ws = [] := List.length_eq_zero_iff.1 hw0e.symm
            have q := text_any hS6.box.ps
            have HS := hide' hS6
            obtain ⟨tt, htt⟩ : ∃ tt, tx s4.ts = tt := ⟨_, rfl⟩
            rw [htt] at q
            have HT := hide' htt
            have hln := tx_len hS6.box.ps hxl
            rw [htt] at hln
            have HLN := hide' hln
            clear hS6 htt hw0e hln o0 o1 o2 o4 o5 o6
            dsimp only
            go_wp2_with fail
            refine q.mono ?_
            rintro e w7 ⟨rfl, m7, hw7⟩
            clear q o3
            have hS7 := HS.out.drewN m7
            rw [← hw7] at hS7
            have hs7 : w6.heap.size = w7.heap.size := by rw [hw7]; rfl
            have q := assign_any tt w7 HLN.out (glo_cell hS7.box.ps)
            have HS := hide' hS7
            obtain ⟨ab, hab⟩ : ∃ ab, assignB tt = ab := ⟨_, rfl⟩
            rw [hab] at q
            have HAB := hide' hab
            clear hw7 hS7 hab
            dsimp only
            go_wp2_with fail
            refine q.mono ?_
            rintro e w8 ⟨rfl, m8, hw8⟩
            clear q
            have hS8 := HS.out.drewN m8
            rw [← hw8] at hS8
            have hs8 : w7.heap.size = w8.heap.size := by rw [hw8]; rfl
            clear hw8 HS
            cases ab with
            | true =>
              have HR4 := hide' (show (andT (wordP s4) fun r s' => simpleP gk' true (ag ++ [r]) ws rs s') = R by rw [← HR3.out, HT.out, if_pos ⟨hws, HAB.out⟩]; unfold wordP; rw [if_pos HKD.out, HT.out]; rfl)
              have HNo := hide' (show wordP s4 ≠ .out from fun e => by unfold wordP at e; rw [if_pos HKD.out] at e; cases e)
              have q := word_step w8.drew s4 hS8.box.ps.drew
              have hlW : bx < w8.drew.heap.size := by show _ < w8.heap.size; omega
              have HNE := hide' hS8.box.ps.good.ne
              have HB := hide' hS8.box
              have HRo := hide' hS8.rowA
              have HS := hide' hS8
              clear hS8 HR2 HR3
              dsimp only
              go_upto_region 9 with fail
              refine wp_region_classX [7] (C := BxC bx 2 (.slice aa an ac)) (by kernel_rfl) ?_
              have hC : BxC bx 2 (.slice aa an ac) w8.drew := ⟨by rw [show w8.drew.cell? ⟨bx, 2, none⟩ = w8.cell? ⟨bx, 2, none⟩ from rfl, Lib.cell_of_heap HB.out.box]; rfl⟩
              (refine wpAnyX_take (i := 0) (v := ?_) hC rfl (by kernel_rfl) (by kernel_rfl) (by kernel_rfl) (by kernel_rfl) (fun _ _ _ h => h) (Or.inl ⟨by kernel_rfl, ?_⟩) ?_; rotate_left; (intro w hc; have k3 := hc.c; clear hc; go_simp; try with_reducible rfl))
              (refine wpAnyX_take (i := 1) (v := ?_) hC rfl (by kernel_rfl) (by kernel_rfl) (by kernel_rfl) (by kernel_rfl) (fun _ _ _ h => h) (Or.inl ⟨by kernel_rfl, ?_⟩) ?_; rotate_left; (intro w hc; have k3 := hc.c; clear hc; go_simp; try with_reducible rfl))
              (refine wpAnyX_take (i := 2) (v := ?_) hC rfl (by kernel_rfl) (by kernel_rfl) (by kernel_rfl) (by kernel_rfl) (fun _ _ _ h => h) (Or.inl ⟨by kernel_rfl, ?_⟩) ?_; rotate_left; (intro w hc; have k3 := hc.c; clear hc; go_simp; try with_reducible rfl))
              refine wpAnyX_one (i := 3) (by kernel_rfl) (wpOp_wanted rfl (by rfl) ?_)
              go_simp
              refine q.mono ?_
              rintro e w3 hr
              clear q hC
              cases hp : wordP s4 with
              | out => exact absurd hp HNo.out
              | bad =>
                rw [hp] at hr
                unfold wordP at hp
                rw [if_pos HKD.out] at hp
                cases hp
              | ok rr s9 =>
                rw [hp] at hr
                have HR5' := hide' (show simpleP gk' true (ag ++ [rr]) ws rs s9 = R by rw [← HR4.out, hp]; rfl)
                have HL9 := hide' (show s9.ts.length < s4.ts.length by
                  unfold wordP at hp
                  rw [if_pos HKD.out] at hp
                  cases hp
                  exact nx_len HNE.out)
                obtain ⟨g3, h3, v, rfl, hv⟩ := hr
                obtain rfl : v = .string (mk rr) := hv
                have hB3 := HB.out.drew.call g3 h3 hAl
                have hs3 := g3.size
                have hb4 : Below w3.heap.size w3 (w3.alloc (.cells #[.string (mk rr)] 9)) := (Below.refl _ _).alloc (Nat.le_refl _) _
                have hB4 := hB3.below hb4
                have hC3 : BxC bx 2 (.slice aa an ac) w3 := ⟨by rw [Lib.cell_of_heap hB3.box]; rfl⟩
                have hC4 : BxC bx 2 (.slice aa an ac) (w3.alloc (.cells #[.string (mk rr)] 9)) := ⟨by rw [Lib.cell_of_heap hB4.box]; rfl⟩
                have hR4 : RowS (w3.alloc (.cells #[.string (mk rr)] 9)) (KS w bx) 9 1 (.slice aa an ac) an (ag.map fun x => .string (mk x)) := (HRo.out.kept fun g' hg' hl => g3.block g' hl fun e => by have h0 := Option.some.inj e; (try dsimp only at h0); have := hg'.1; omega).kept fun g' _ hl => hb4.block g' hl
                have hown := hR4.own
                have hnew : ∀ (j : Nat) u, ([.string (mk rr)] : List Value)[j]? = some u → (w3.alloc (.cells #[.string (mk rr)] 9)).cell? ((⟨w3.heap.size, 0, none⟩ : Addr).add j) = some u := fun j u hj => by rw [Addr.add_lit, Nat.zero_add, Lib.cell_of_heap (heap_alloc_new w3 _)]; simpa using hj
                have HJ := hide' (And.intro hB3 g3)
                clear hB3 hB4 hR4 g3 h3 hb4 hp
                dsimp only
                refine ⟨hC3, ?_⟩
                refine wpAnyX_one (i := 4) (by kernel_rfl) (wpOp_wanted rfl (by rfl) ?_)
                go_simp
                obtain ⟨inf, hi, hz0, hz1, hz2⟩ := info_parts infoStr
                refine wpAnyX_one (i := 5) (by kernel_rfl) (wpOp_wanted rfl (by rfl) ?_)
                refine wp_append_lies _ _ _ 23 rfl 0 9 inf _ 1 16 Tryz.underlying23 hi hz0 hz1 hz2 rfl (by decide) (.slice aa an ac) an (ag.map fun x => .string (mk x)) rfl hown ⟨w3.heap.size, 0, none⟩ 1 1 [.string (mk rr)] rfl rfl hnew (by simp [Value.oneCell']) (by decide) (by unfold maxLen; omega) (by omega) (Nat.zero_le _) _ rfl ?_
                intro g cap w4 ho hg hat _
                clear hi hz0 hz1 hz2 hown hnew hC3 hC4
                obtain ⟨hB3, g3⟩ := HJ.out
                obtain ⟨hB4, hB5, hR5, hkp, hap⟩ := push_row (w2 := w8.drew) (f := 2) hB3 (HRo.out.kept fun _ _ _ => rfl) (by decide) g3 hAl hlW ho hg hat
                have e5 : w4.cell? ⟨bx, 2, none⟩ = some (.slice aa an ac) := by rw [Lib.cell_of_heap hB4.box]; rfl
                have f5 := Lib.frozen_of_heap hB4.box 2
                have hC5 : BxC bx 2 (.slice aa an ac) w4 := ⟨e5⟩
                have HB5 := hide' hB5
                have HR5 := hide' hR5
                have HKP := hide' (And.intro hkp hap)
                clear hB3 hB4 hB5 hR5 g3 ho hg hat HJ HB HRo hkp hap
                refine ⟨fun _ => hC5, ?_⟩
                refine wpAnyX_one (i := 6) (by kernel_rfl) (wpOp_wanted rfl (by rfl) ?_)
                go_simp
                refine wpAnyX_one (i := 7) (by kernel_rfl) (wpOp_wanted rfl (by rfl) ?_)
                go_simp
                refine wpAnyX_done (by kernel_rfl) ?_ _
                clear hC5 e5 f5
                have hS5 : SmAt x w _ s9 bx (some ⟨g, 0, none⟩) (an + 1) cap wa 0 wc ra rn rc (ag ++ [rr]) ws rs := ⟨HB5.out, by have h := HR5.out; rw [List.map_append]; exact h,
                  HS.out.rowW.keptO fun b e h1 h2 => HKP.out.1 b h1 h2 (fun e' => HS.out.apart b e' e),
                  HS.out.rowR.keptO fun b e h1 h2 => HKP.out.1 b h1 h2 (row_ne HS.out.rowR HS.out.rowA (by decide) b e), by rw [HS.out.la]; simp, HS.out.lw, HS.out.lr,
                  fun b e e' => HKP.out.2 b (HS.out.rowW.blk b e' |>.2.elim fun _ h => lt_of_block h) (fun e2 => HS.out.apart b e2 e') e⟩
                have HS5 := hide' hS5
                clear hS5 HB5 HR5 HKP
                go_wp2_with fail
                go_roundg gk'
                case rel => exact ⟨by omega, s9, some ⟨g, 0, none⟩, an + 1, cap, wa, 0, wc, ra, rn, rc, ag ++ [rr], ws, rs, true, HS5.out, (fun e => by cases e), (fun _ => by
                  have h1 := HL9.out
                  cases b with
                  | true => have := HBB.out.2 rfl; omega
                  | false => have := HBB.out.1 rfl; omega), by omega, by omega, by omega, HR5'.out⟩
                case measure => omega
            | false =>
              have HR4 := hide' (show (andT (wordP s4) fun r s' => simpleP gk' true ag (ws ++ [r]) rs s') = R by rw [← HR3.out, HT.out, if_neg (fun e => by rw [HAB.out] at e; exact absurd e.2 (by decide))]; unfold wordP; rw [if_pos HKD.out, HT.out]; rfl)
              have q := atWord_any hS8.box.ps
              rw [decide_eq_true HKD.out] at q
              have HS := hide' hS8
              clear hS8 HR2 HR3
              dsimp only
              go_wp2_with fail
              refine q.mono ?_
              rintro e w9 ⟨rfl, m9, hw9⟩
              clear q
              have hS9 := HS.out.drewN m9
              rw [← hw9] at hS9
              have hs9 : w8.heap.size = w9.heap.size := by rw [hw9]; rfl
              clear hw9 HS
              have HNo := hide' (show wordP s4 ≠ .out from fun e => by unfold wordP at e; rw [if_pos HKD.out] at e; cases e)
              have q := word_step w9.drew s4 hS9.box.ps.drew
              have hlW : bx < w9.drew.heap.size := by show _ < w9.heap.size; omega
              have HNE := hide' hS9.box.ps.good.ne
              have HB := hide' hS9.box
              have HRo := hide' hS9.rowW
              have HS := hide' hS9
              clear hS9
              dsimp only
              go_upto_region 11 with fail
              refine wp_region_classX [7] (C := BxC bx 3 (.slice wa 0 wc)) (by kernel_rfl) ?_
              have hC : BxC bx 3 (.slice wa 0 wc) w9.drew := ⟨by rw [show w9.drew.cell? ⟨bx, 3, none⟩ = w9.cell? ⟨bx, 3, none⟩ from rfl, Lib.cell_of_heap HB.out.box]; rfl⟩
              (refine wpAnyX_take (i := 0) (v := ?_) hC rfl (by kernel_rfl) (by kernel_rfl) (by kernel_rfl) (by kernel_rfl) (fun _ _ _ h => h) (Or.inl ⟨by kernel_rfl, ?_⟩) ?_; rotate_left; (intro w hc; have k3 := hc.c; clear hc; go_simp; try with_reducible rfl))
              (refine wpAnyX_take (i := 1) (v := ?_) hC rfl (by kernel_rfl) (by kernel_rfl) (by kernel_rfl) (by kernel_rfl) (fun _ _ _ h => h) (Or.inl ⟨by kernel_rfl, ?_⟩) ?_; rotate_left; (intro w hc; have k3 := hc.c; clear hc; go_simp; try with_reducible rfl))
              (refine wpAnyX_take (i := 2) (v := ?_) hC rfl (by kernel_rfl) (by kernel_rfl) (by kernel_rfl) (by kernel_rfl) (fun _ _ _ h => h) (Or.inl ⟨by kernel_rfl, ?_⟩) ?_; rotate_left; (intro w hc; have k3 := hc.c; clear hc; go_simp; try with_reducible rfl))
              refine wpAnyX_one (i := 3) (by kernel_rfl) (wpOp_wanted rfl (by rfl) ?_)
              go_simp
              refine q.mono ?_
              rintro e w3 hr
              clear q hC
              cases hp : wordP s4 with
              | out => exact absurd hp HNo.out
              | bad =>
                rw [hp] at hr
                unfold wordP at hp
                rw [if_pos HKD.out] at hp
                cases hp
              | ok rr s9 =>
                rw [hp] at hr
                have HR5' := hide' (show simpleP gk' true ag (ws ++ [rr]) rs s9 = R by rw [← HR4.out, hp]; rfl)
                have HL9 := hide' (show s9.ts.length < s4.ts.length by
                  unfold wordP at hp
                  rw [if_pos HKD.out] at hp
                  cases hp
                  exact nx_len HNE.out)
                obtain ⟨g3, h3, v, rfl, hv⟩ := hr
                obtain rfl : v = .string (mk rr) := hv
                have hB3 := HB.out.drew.call g3 h3 hAl
                have hs3 := g3.size
                have hb4 : Below w3.heap.size w3 (w3.alloc (.cells #[.string (mk rr)] 9)) := (Below.refl _ _).alloc (Nat.le_refl _) _
                have hB4 := hB3.below hb4
                have hC3 : BxC bx 3 (.slice wa 0 wc) w3 := ⟨by rw [Lib.cell_of_heap hB3.box]; rfl⟩
                have hC4 : BxC bx 3 (.slice wa 0 wc) (w3.alloc (.cells #[.string (mk rr)] 9)) := ⟨by rw [Lib.cell_of_heap hB4.box]; rfl⟩
                have hR4 : RowS (w3.alloc (.cells #[.string (mk rr)] 9)) (KS w bx) 9 1 (.slice wa 0 wc) 0 (ws.map fun x => .string (mk x)) := (HRo.out.kept fun g' hg' hl => g3.block g' hl fun e => by have h0 := Option.some.inj e; (try dsimp only at h0); have := hg'.1; omega).kept fun g' _ hl => hb4.block g' hl
                have hown := hR4.own
                have hnew : ∀ (j : Nat) u, ([.string (mk rr)] : List Value)[j]? = some u → (w3.alloc (.cells #[.string (mk rr)] 9)).cell? ((⟨w3.heap.size, 0, none⟩ : Addr).add j) = some u := fun j u hj => by rw [Addr.add_lit, Nat.zero_add, Lib.cell_of_heap (heap_alloc_new w3 _)]; simpa using hj
                have HJ := hide' (And.intro hB3 g3)
                clear hB3 hB4 hR4 g3 h3 hb4 hp
                dsimp only
                refine ⟨hC3, ?_⟩
                refine wpAnyX_one (i := 4) (by kernel_rfl) (wpOp_wanted rfl (by rfl) ?_)
                go_simp
                obtain ⟨inf, hi, hz0, hz1, hz2⟩ := info_parts infoStr
                refine wpAnyX_one (i := 5) (by kernel_rfl) (wpOp_wanted rfl (by rfl) ?_)
                refine wp_append_lies _ _ _ 23 rfl 0 9 inf _ 1 16 Tryz.underlying23 hi hz0 hz1 hz2 rfl (by decide) (.slice wa 0 wc) 0 (ws.map fun x => .string (mk x)) rfl hown ⟨w3.heap.size, 0, none⟩ 1 1 [.string (mk rr)] rfl rfl hnew (by simp [Value.oneCell']) (by decide) (by unfold maxLen; omega) (by omega) (Nat.zero_le _) _ rfl ?_
                intro g cap w4 ho hg hat _
                clear hi hz0 hz1 hz2 hown hnew hC3 hC4
                obtain ⟨hB3, g3⟩ := HJ.out
                obtain ⟨hB4, hB5, hR5, hkp, hap⟩ := push_row (w2 := w9.drew) (f := 3) hB3 (HRo.out.kept fun _ _ _ => rfl) (by decide) g3 hAl hlW ho hg hat
                have e5 : w4.cell? ⟨bx, 3, none⟩ = some (.slice wa 0 wc) := by rw [Lib.cell_of_heap hB4.box]; rfl
                have f5 := Lib.frozen_of_heap hB4.box 3
                have hC5 : BxC bx 3 (.slice wa 0 wc) w4 := ⟨e5⟩
                have HB5 := hide' hB5
                have HR5 := hide' hR5
                have HKP := hide' (And.intro hkp hap)
                clear hB3 hB4 hB5 hR5 g3 ho hg hat HJ HB HRo hkp hap
                refine ⟨fun _ => hC5, ?_⟩
                refine wpAnyX_one (i := 6) (by kernel_rfl) (wpOp_wanted rfl (by rfl) ?_)
                go_simp
                refine wpAnyX_one (i := 7) (by kernel_rfl) (wpOp_wanted rfl (by rfl) ?_)
                go_simp
                refine wpAnyX_done (by kernel_rfl) ?_ _
                clear hC5 e5 f5
                have hS5 : SmAt x w _ s9 bx aa an ac (some ⟨g, 0, none⟩) (0 + 1) cap ra rn rc ag (ws ++ [rr]) rs := ⟨HB5.out, HS.out.rowA.keptO fun b e h1 h2 => HKP.out.1 b h1 h2 (HS.out.apart b e),
                  by have h := HR5.out; rw [List.map_append]; exact h,
                  HS.out.rowR.keptO fun b e h1 h2 => HKP.out.1 b h1 h2 (row_ne HS.out.rowR HS.out.rowW (by decide) b e), HS.out.la, by rw [HS.out.lw]; simp, HS.out.lr,
                  fun b e e' => HKP.out.2 b (HS.out.rowA.blk b e |>.2.elim fun _ h => lt_of_block h) (HS.out.apart b e) e'⟩
                have HS5 := hide' hS5
                clear hS5 HB5 HR5 HKP
                go_wp2_with fail
                go_roundg gk'
                case rel => exact ⟨by omega, s9, aa, an, ac, some ⟨g, 0, none⟩, 0 + 1, cap, ra, rn, rc, ag, ws ++ [rr], rs, true, HS5.out, (fun e => by cases e), (fun _ => by
                  have h1 := HL9.out
                  cases b with
                  | true => have := HBB.out.2 rfl; omega
                  | false => have := HBB.out.1 rfl; omega), by omega, by omega, by omega, HR5'.out⟩
                case measure => omega
          · have hw1 : ((wn : Int) == 0) = false := beq_eq_false_iff_ne.2 (by omega)
            have hw2 : ¬ (wn : Int) = 0 := by omega
            have hws : ws ≠ [] := fun e => hw0 (by rw [hw0e, e]; rfl)
            have HR4 := hide' (show (andT (wordP s4) fun r s' => simpleP gk' true ag (ws ++ [r]) rs s') = R by rw [← HR3.out, if_neg (fun e => hws e.1)]; unfold wordP; rw [if_pos HKD.out]; rfl)
            have q := atWord_any hS6.box.ps
            rw [decide_eq_true HKD.out] at q
            have HS := hide' hS6
            clear hS6 HR2 HR3 o0 o1 o2 o4 o5 o6 hw0 hw0e hws
            dsimp only
            go_wp2_with fail
            refine q.mono ?_
            rintro e w9 ⟨rfl, m9, hw9⟩
            clear q o3
            have hS9 := HS.out.drewN m9
            rw [← hw9] at hS9
            have hs9 : w6.heap.size = w9.heap.size := by rw [hw9]; rfl
            clear hw9 HS
            have HNo := hide' (show wordP s4 ≠ .out from fun e => by unfold wordP at e; rw [if_pos HKD.out] at e; cases e)
            have q := word_step w9.drew s4 hS9.box.ps.drew
            have hlW : bx < w9.drew.heap.size := by show _ < w9.heap.size; omega
            have HNE := hide' hS9.box.ps.good.ne
            have HB := hide' hS9.box
            have HRo := hide' hS9.rowW
            have HS := hide' hS9
            clear hS9
            dsimp only
            go_upto_region 11 with fail
            refine wp_region_classX [7] (C := BxC bx 3 (.slice wa wn wc)) (by kernel_rfl) ?_
            have hC : BxC bx 3 (.slice wa wn wc) w9.drew := ⟨by rw [show w9.drew.cell? ⟨bx, 3, none⟩ = w9.cell? ⟨bx, 3, none⟩ from rfl, Lib.cell_of_heap HB.out.box]; rfl⟩
            (refine wpAnyX_take (i := 0) (v := ?_) hC rfl (by kernel_rfl) (by kernel_rfl) (by kernel_rfl) (by kernel_rfl) (fun _ _ _ h => h) (Or.inl ⟨by kernel_rfl, ?_⟩) ?_; rotate_left; (intro w hc; have k3 := hc.c; clear hc; go_simp; try with_reducible rfl))
            (refine wpAnyX_take (i := 1) (v := ?_) hC rfl (by kernel_rfl) (by kernel_rfl) (by kernel_rfl) (by kernel_rfl) (fun _ _ _ h => h) (Or.inl ⟨by kernel_rfl, ?_⟩) ?_; rotate_left; (intro w hc; have k3 := hc.c; clear hc; go_simp; try with_reducible rfl))
            (refine wpAnyX_take (i := 2) (v := ?_) hC rfl (by kernel_rfl) (by kernel_rfl) (by kernel_rfl) (by kernel_rfl) (fun _ _ _ h => h) (Or.inl ⟨by kernel_rfl, ?_⟩) ?_; rotate_left; (intro w hc; have k3 := hc.c; clear hc; go_simp; try with_reducible rfl))
            refine wpAnyX_one (i := 3) (by kernel_rfl) (wpOp_wanted rfl (by rfl) ?_)
            go_simp
            refine q.mono ?_
            rintro e w3 hr
            clear q hC
            cases hp : wordP s4 with
            | out => exact absurd hp HNo.out
            | bad =>
              rw [hp] at hr
              unfold wordP at hp
              rw [if_pos HKD.out] at hp
              cases hp
            | ok rr s9 =>
              rw [hp] at hr
              have HR5' := hide' (show simpleP gk' true ag (ws ++ [rr]) rs s9 = R by rw [← HR4.out, hp]; rfl)
              have HL9 := hide' (show s9.ts.length < s4.ts.length by
                unfold wordP at hp
                rw [if_pos HKD.out] at hp
                cases hp
                exact nx_len HNE.out)
              obtain ⟨g3, h3, v, rfl, hv⟩ := hr
              obtain rfl : v = .string (mk rr) := hv
              have hB3 := HB.out.drew.call g3 h3 hAl
              have hs3 := g3.size
              have hb4 : Below w3.heap.size w3 (w3.alloc (.cells #[.string (mk rr)] 9)) := (Below.refl _ _).alloc (Nat.le_refl _) _
              have hB4 := hB3.below hb4
              have hC3 : BxC bx 3 (.slice wa wn wc) w3 := ⟨by rw [Lib.cell_of_heap hB3.box]; rfl⟩
              have hC4 : BxC bx 3 (.slice wa wn wc) (w3.alloc (.cells #[.string (mk rr)] 9)) := ⟨by rw [Lib.cell_of_heap hB4.box]; rfl⟩
              have hR4 : RowS (w3.alloc (.cells #[.string (mk rr)] 9)) (KS w bx) 9 1 (.slice wa wn wc) wn (ws.map fun x => .string (mk x)) := (HRo.out.kept fun g' hg' hl => g3.block g' hl fun e => by have h0 := Option.some.inj e; (try dsimp only at h0); have := hg'.1; omega).kept fun g' _ hl => hb4.block g' hl
              have hown := hR4.own
              have hnew : ∀ (j : Nat) u, ([.string (mk rr)] : List Value)[j]? = some u → (w3.alloc (.cells #[.string (mk rr)] 9)).cell? ((⟨w3.heap.size, 0, none⟩ : Addr).add j) = some u := fun j u hj => by rw [Addr.add_lit, Nat.zero_add, Lib.cell_of_heap (heap_alloc_new w3 _)]; simpa using hj
              have HJ := hide' (And.intro hB3 g3)
              clear hB3 hB4 hR4 g3 h3 hb4 hp
              dsimp only
              refine ⟨hC3, ?_⟩
              refine wpAnyX_one (i := 4) (by kernel_rfl) (wpOp_wanted rfl (by rfl) ?_)
              go_simp
              obtain ⟨inf, hi, hz0, hz1, hz2⟩ := info_parts infoStr
              refine wpAnyX_one (i := 5) (by kernel_rfl) (wpOp_wanted rfl (by rfl) ?_)
              refine wp_append_lies _ _ _ 23 rfl 0 9 inf _ 1 16 Tryz.underlying23 hi hz0 hz1 hz2 rfl (by decide) (.slice wa wn wc) wn (ws.map fun x => .string (mk x)) rfl hown ⟨w3.heap.size, 0, none⟩ 1 1 [.string (mk rr)] rfl rfl hnew (by simp [Value.oneCell']) (by decide) (by unfold maxLen; omega) (by omega) (Nat.zero_le _) _ rfl ?_
              intro g cap w4 ho hg hat _
              clear hi hz0 hz1 hz2 hown hnew hC3 hC4
              obtain ⟨hB3, g3⟩ := HJ.out
              obtain ⟨hB4, hB5, hR5, hkp, hap⟩ := push_row (w2 := w9.drew) (f := 3) hB3 (HRo.out.kept fun _ _ _ => rfl) (by decide) g3 hAl hlW ho hg hat
              have e5 : w4.cell? ⟨bx, 3, none⟩ = some (.slice wa wn wc) := by rw [Lib.cell_of_heap hB4.box]; rfl
              have f5 := Lib.frozen_of_heap hB4.box 3
              have hC5 : BxC bx 3 (.slice wa wn wc) w4 := ⟨e5⟩
              have HB5 := hide' hB5
              have HR5 := hide' hR5
              have HKP := hide' (And.intro hkp hap)
              clear hB3 hB4 hB5 hR5 g3 ho hg hat HJ HB HRo hkp hap
              refine ⟨fun _ => hC5, ?_⟩
              refine wpAnyX_one (i := 6) (by kernel_rfl) (wpOp_wanted rfl (by rfl) ?_)
              go_simp
              refine wpAnyX_one (i := 7) (by kernel_rfl) (wpOp_wanted rfl (by rfl) ?_)
              go_simp
              refine wpAnyX_done (by kernel_rfl) ?_ _
              clear hC5 e5 f5
              have hS5 : SmAt x w _ s9 bx aa an ac (some ⟨g, 0, none⟩) (wn + 1) cap ra rn rc ag (ws ++ [rr]) rs := ⟨HB5.out, HS.out.rowA.keptO fun b e h1 h2 => HKP.out.1 b h1 h2 (HS.out.apart b e),
                by have h := HR5.out; rw [List.map_append]; exact h,
                HS.out.rowR.keptO fun b e h1 h2 => HKP.out.1 b h1 h2 (row_ne HS.out.rowR HS.out.rowW (by decide) b e), HS.out.la, by rw [HS.out.lw]; simp, HS.out.lr,
                fun b e e' => HKP.out.2 b (HS.out.rowA.blk b e |>.2.elim fun _ h => lt_of_block h) (HS.out.apart b e) e'⟩
              have HS5 := hide' hS5
              clear hS5 HB5 HR5 HKP
              go_wp2_with fail
              go_roundg gk'
              case rel => exact ⟨by omega, s9, aa, an, ac, some ⟨g, 0, none⟩, wn + 1, cap, ra, rn, rc, ag, ws ++ [rr], rs, true, HS5.out, (fun e => by cases e), (fun _ => by
                have h1 := HL9.out
                cases b with
                | true => have := HBB.out.2 rfl; omega
                | false => have := HBB.out.1 rfl; omega), by omega, by omega, by omega, HR5'.out⟩
              case measure => omega
        · rw [decide_eq_false hkd] at q
          have HKD := hide' hkd
          clear hkd
          have HR3 := hide' (show (if b = true then .ok (.mk 1 false ag ws rs [] []) s4 else .bad) = R by rw [← HR2.out, if_neg HRB'.out, if_neg HKD.out])
          dsimp only
          go_wp2_with fail
          refine q.mono ?_
          rintro e w6 ⟨rfl, m6, hw6⟩
          clear q
          have hS6 := HS.out.drewN m6
          rw [← hw6] at hS6
          have hs6 : w5.heap.size = w6.heap.size := by rw [hw6]; rfl
          have q := atWord_any hS6.box.ps
          rw [decide_eq_false HKD.out] at q
          clear hw6 HS
          have HS := hide' hS6
          clear hS6
          dsimp only
          go_wp2_with fail
          refine q.mono ?_
          rintro e w7 ⟨rfl, m7, hw7⟩
          clear q
          have hS7 := HS.out.drewN m7
          rw [← hw7] at hS7
          clear hw7 HS
          obtain ⟨p7, hp7⟩ := hS7.box.ps
          have k1 := hp7.fields.2.1
          have hl7 := psp_len hp7
          cases b with
          | true =>
            obtain rfl : R = .ok (.mk 1 false ag ws rs [] []) s4 := HR3.out.symm
            have hne7 : ((p7 : Int) == (p0 : Int)) = false := beq_eq_false_iff_ne.2 (by have := HBB.out.2 rfl; have := HP0.out; omega)
            have hne8 : ¬ (p7 : Int) = (p0 : Int) := by have := HBB.out.2 rfl; have := HP0.out; omega
            have HE := hide' (prr_end hS7.box.gr hS7.box.ps hS7.box.res hS7.cmd)
            obtain ⟨o0, o1, o2, o3, o4, o5, o6⟩ := cells7 hS7.box.box
            obtain ⟨r0, r1, r2, r3, r4, r5, r6⟩ := cells7 hS7.box.res
            obtain ⟨f0, f1, f2, f3, f4, f5, f6⟩ := fz7 hS7.box.res
            clear hS7 hp7 hl7 HR2 HR3 HBB HP0 HRB HRB' HKD hne hxl
            dsimp only
            go_wp2
            obtain ⟨hV, hbk⟩ := HE.out _ rfl
            obtain ⟨d0, d1, d2, d3, d4, d5, d6⟩ := cells7 hbk
            refine bodyPost_ret (v := .agg #[.int .i64 1, .bool false, .slice aa an ac, .slice wa wn wc, .slice ra rn rc, .slice none 0 0, .slice none 0 0]) (by simp [results, Tryz.results139, go_sem, d0, d1, d2, d3, d4, d5, d6]) rfl ?_
            exact hV
          | false =>
            obtain rfl : R = .bad := HR3.out.symm
            obtain rfl : p7 = p0 := by have := HBB.out.1 rfl; have := HP0.out; omega
            have q := giveUp_prr (V := CmdV w.heap.size) hS7.box.ps hS7.box.gr
            clear hS7 hp7 hl7 HR2 HR3 HBB HP0 HRB HRB' HKD hne hxl
            dsimp only
            go_wp2_with fail
            refine q.mono ?_
            rintro e w8 ⟨g2, b, p, rfl, hb⟩
            exact ⟨rfl, g2, b, p, rfl, hb⟩
end Go.Proofs.YtcemlhfodpelaaaGreatDoor
