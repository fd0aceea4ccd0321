/- The contract of anvilref10.inner. -/
import Derived.Test.YtaemmgllhmjceaaDoorQf
import Derived.Test.YtaemmgllhmjceaaDoorFuns
namespace Go.Proofs.YtaemmgllhmjceaaDoor
open Go.RowKit

structure RiC (F j : Nat) (w : World) : Prop where
  name : w.cell? ⟨F, j * 3, none⟩ = some (.string (nmA j))
  most : w.cell? ⟨F, j * 3 + 2, none⟩ = some (.int .i64 (fnAt j).2.2)
/-- what was found so far -/
def Bst (l : Bs) (k : Nat) (b : Int) : Prop := (b = -1 ∧ ∀ j, j < k → ¬ Qf l j) ∨ ∃ j : Nat, j < k ∧ b = j ∧ Qf l j
theorem bst_no {l : Bs} {k : Nat} {b : Int} (h : Bst l k b) (hn : ¬ Qf l k) : Bst l (k + 1) b := by
  rcases h with ⟨h1, h2⟩ | ⟨j, h1, h2, h3⟩
  · refine .inl ⟨h1, fun j hj => ?_⟩
    by_cases e : j = k
    · subst e; exact hn
    · exact h2 j (by omega)
  · exact .inr ⟨j, by omega, h2, h3⟩
theorem bst_yes {l : Bs} {k : Nat} {b : Int} (hk : k < 34) (h : Bst l k b) (hn : Qf l k) : b = -1 ∧ Bst l (k + 1) k := by
  rcases h with ⟨h1, h2⟩ | ⟨j, h1, h2, h3⟩
  · exact ⟨h1, .inr ⟨k, by omega, rfl, hn⟩⟩
  · exact absurd (qf_one l j k (by omega) hk h3 hn) (by omega)
set_option maxRecDepth 100000 in
set_option maxHeartbeats 4000000 in
theorem rinner_any (s : ByteArray) (hs : s.size ≤ 100000) (w : World) :
    Calls Tryd.prog 27 #[.string s] w fun e w' => ∃ v, e = .returned v ∧ PtAt w' w.heap.size v (ins (tl s)) ∧ Below w.heap.size w w' := by
  have hx := bx4_new w
  have hB : Below w.heap.size w (w.alloc (.cells #[.int .i64 0, .string ⟨#[]⟩, .string ⟨#[]⟩, .slice none 0 0] 30)) := (Below.refl _ w).alloc (Nat.le_refl _) _
  generalize hW : w.alloc (.cells #[.int .i64 0, .string ⟨#[]⟩, .string ⟨#[]⟩, .slice none 0 0] 30) = W at hx hB
  have HW := hide' hW
  clear hW
  have kF := funs_any W
  have hBF : Below W.heap.size W (W.alloc (.cells (flatF fnL).toArray 63)) := (Below.refl _ W).alloc (Nat.le_refl _) _
  have hA : FnsAt (W.alloc (.cells (flatF fnL).toArray 63)) W.heap.size := FnsAt.of_cells (heap_alloc_new W _)
  generalize W.alloc (.cells (flatF fnL).toArray 63) = W1 at kF hBF hA
  have hx1 := hx.below hBF
  have hB1 := hB.trans (hBF.mono hB.size)
  clear hx hB hBF
  go_enter Tryd.func27, Tryd.ntmps27
  go_upto_region 1 with fail
  rw [HW.out]
  go_wp2_with (go_at_call 30; refine kF.mono ?_; rintro e w1 ⟨rfl, rfl⟩)
  clear kF
  go_loopw [4, 5] (fun bv i wr => ∃ (k : Nat) (b : Int), k ≤ 34 ∧ -1 ≤ b ∧ b < 34 ∧ i = .int .i64 k ∧ bv = .int .i64 b ∧ Below w1.heap.size w1 wr ∧ Hid (Bst (tl s) k b)) (fun _ i _ => 34 - (intOf i).toNat)
  case atStart => exact ⟨0, -1, Nat.zero_le _, by omega, by omega, rfl, rfl, Below.refl _ _, .inl ⟨rfl, fun j hj => absurd hj (Nat.not_lt_zero j)⟩⟩
  case round =>
    obtain ⟨k, b, hk, hb0, hb1, rfl, rfl, hBr, HI⟩ := hrel
    have hA' := hA.below hBr
    by_cases hlt : k < 34
    · have c0 := hA'.name k hlt
      have hnl : (nmA k).size = (fnAt k).1.length := by rw [← tl_len, tl_nm]
      have hn10 := nm_size k hlt
      have bye : ∀ n, Below w1.heap.size w1 (wr.drewN n) := fun n => hBr.trans (below_drewn n)
      by_cases h1 : (nmA k).size < s.size
      · have d1 : decide (((nmA k).size : Int) < (s.size : Int)) = true := decide_eq_true (by omega)
        have hex : tl (s.extract 0 (nmA k).size) = (tl s).take (nmA k).size := by rw [ext_take, tl_mk]
        by_cases h2 : (tl s).take (nmA k).size = (fnAt k).1
        · have d2 : ((s.extract 0 (nmA k).size).toList == (nmA k).toList) = true := by rw [str_eq, hex, tl_nm]; exact decide_eq_true h2
          have kb : ∀ w, Calls Tryd.prog 36 #[.int .u8 s[(nmA k).size].toNat] w fun e w' => e = .returned (.bool (bl s[(nmA k).size])) ∧ w' = w := fun w => rblank_any s[(nmA k).size] w
          have hgd := getD_at s (nmA k).size h1
          cases h3 : bl s[(nmA k).size] with
          | true =>
            have hq : Qf (tl s) k := ⟨by rw [tl_len, ← hnl]; exact h1, by rw [← hnl]; exact h2, by rw [← hnl, hgd]; exact h3⟩
            obtain ⟨rfl, hq2⟩ := bst_yes hlt HI.out hq
            have HI' := hide' hq2
            rw [h3] at kb
            have d4 : decide ((-1 : Int) < 0) = true := by decide
            generalize hE : s.extract 0 (nmA k).size = E at d2
            clear h2 h3 HI hq hq2 hA hA' hex hgd hnl
            go_wp2
            go_quiet ((go_at_call 36; exact (kb _).mono fun _ _ h => ⟨h.1, _, h.2⟩))
            go_wp2
            exact ⟨⟨k + 1, k, by omega, by omega, by omega, by go_num, rfl, bye _, HI'⟩, by simp [intOf]; omega⟩
          | false =>
            have hq : ¬ Qf (tl s) k := fun h => by
              have := h.2.2
              rw [← hnl, hgd, h3] at this
              cases this
            have HI' := hide' (bst_no HI.out hq)
            rw [h3] at kb
            generalize hE : s.extract 0 (nmA k).size = E at d2
            clear h2 h3 HI hq hA hA' hex hgd hnl
            go_wp2
            go_quiet ((go_at_call 36; exact (kb _).mono fun _ _ h => ⟨h.1, _, h.2⟩))
            go_wp2
            exact ⟨⟨k + 1, b, by omega, by omega, by omega, by go_num, rfl, bye _, HI'⟩, by simp [intOf]; omega⟩
        · have d2 : ((s.extract 0 (nmA k).size).toList == (nmA k).toList) = false := by rw [str_eq, hex, tl_nm]; exact decide_eq_false h2
          have hq : ¬ Qf (tl s) k := fun h => h2 (by rw [hnl]; exact h.2.1)
          have HI' := hide' (bst_no HI.out hq)
          generalize hE : s.extract 0 (nmA k).size = E at d2
          clear h2 HI hq hA hA' hex hnl
          go_wp2
          go_quiet (fail)
          go_wp2
          exact ⟨⟨k + 1, b, by omega, by omega, by omega, by go_num, rfl, bye _, HI'⟩, by simp [intOf]; omega⟩
      · have d1 : decide (((nmA k).size : Int) < (s.size : Int)) = false := decide_eq_false (by omega)
        have d1' : decide ((nmA k).size < s.size) = false := decide_eq_false (by omega)
        have hq : ¬ Qf (tl s) k := fun h => h1 (by have := h.1; rw [tl_len, ← hnl] at this; exact this)
        have HI' := hide' (bst_no HI.out hq)
        clear h1 HI hq hA hA' hnl
        go_wp2
        go_quiet (fail)
        go_wp2
        exact ⟨⟨k + 1, b, by omega, by omega, by omega, by go_num, rfl, bye _, HI'⟩, by simp [intOf]; omega⟩
    · obtain rfl : k = 34 := by omega
      by_cases hneg : b < 0
      · obtain rfl : b = -1 := by omega
        have HP : Hid (ins (tl s) = vr (tl s)) := by
          rcases HI.out with ⟨_, h2⟩ | ⟨j, _, h2, _⟩
          · exact ins_no _ h2
          · omega
        have hx2 := hx1.below hBr
        have hB2 := hB1.trans (hBr.mono hB1.size)
        have c0 := hx2.c0
        have c1 := hx2.c1
        have c2 := hx2.c2
        have c3 := hx2.c3
        have f0 := hx2.fz 0
        have f1 := hx2.fz 1
        have f2 := hx2.fz 2
        have f3 := hx2.fz 3
        have HX := hide' hx2
        clear hx2 HI hA hA' hx1
        go_wp2
        have hx3 := HX.out.set (k' := 2) (t' := s) (n' := ⟨#[]⟩) (a' := .slice none 0 0)
        have e0 := hx3.c0
        have e1 := hx3.c1
        have e2 := hx3.c2
        have e3 := hx3.c3
        refine bodyPost_ret (by simp [results, Tryd.results27, go_sem, e0, e1, e2, e3]; rfl) rfl ?_
        refine ⟨_, rfl, ⟨.slice none 0 0, ?_, ?_⟩, put4_below hB2 (Nat.le_refl _) _ _ _ _⟩
        · rw [HP.out]; unfold ptV vr; rw [mk_tl]
        · rw [HP.out]; exact World.ownsRow_nil _ _ _ _
      · obtain ⟨j, hj⟩ := Int.eq_ofNat_of_zero_le (by omega : 0 ≤ b)
        subst hj
        have hjl : j < 34 := by omega
        have hqj : Qf (tl s) j := by
          rcases HI.out with ⟨h2, _⟩ | ⟨i, _, h2, h3⟩
          · omega
          · obtain rfl : j = i := by omega
            exact h3
        have HP : Hid (ins (tl s) = _) := ins_yes (tl s) j hjl hqj
        have hnl : (nmA j).size = (fnAt j).1.length := by rw [← tl_len, tl_nm]
        have hns : (nmA j).size ≤ s.size := by have := hqj.1; rw [tl_len] at this; omega
        have hsm := fn_small j hjl
        have hE2l : tl (s.extract (nmA j).size s.size) = (tl s).drop (nmA j).size := by rw [ext_drop, tl_mk]
        have hE2z : (s.extract (nmA j).size s.size).size ≤ 100000 := by rw [← tl_len, hE2l, List.length_drop, tl_len]; omega
        have kT := fun w => left_any (s.extract (nmA j).size s.size) (by omega) w
        rw [hE2l] at kT
        generalize hE2 : s.extract (nmA j).size s.size = E2 at kT
        obtain ⟨T, hT⟩ : ∃ T, T = mk (((tl s).drop (nmA j).size).dropWhile bl) := ⟨_, rfl⟩
        have hTl : tl T = ((tl s).drop (nmA j).size).dropWhile bl := by rw [hT]; exact tl_mk _
        have hz : T.size ≤ 100000 := by
          rw [← tl_len, hTl]
          have := drop_len ((tl s).drop (nmA j).size)
          rw [List.length_drop, tl_len] at this
          omega
        have kA := fun w => rarguments_any T hz (fnAt j).2.2 hsm.2.2.1 hsm.2.2.2.1 hsm.2.2.2.2 w
        rw [hTl] at kA
        rw [← hT] at kT
        rw [← hnl] at HP
        have hx2 := hx1.below hBr
        have hB2 := hB1.trans (hBr.mono hB1.size)
        have HX0 := hide' hx2
        have hRC : ∀ W', Below wr.heap.size wr W' → RiC W.heap.size j W' := fun W' hb' => ⟨(hA'.below hb').name j hjl, (hA'.below hb').most j hjl⟩
        have HRC := hide' hRC
        have hBd : Below wr.heap.size wr wr.drew := ⟨rfl, rfl, rfl, Nat.le_refl _, fun _ _ => rfl⟩
        generalize arg (fnAt j).2.2 [] [] [] (((tl s).drop (nmA j).size).dropWhile bl) = R at kA HP
        clear hx2 HI hA hA' hx1 hRC hT hTl hz hE2l hE2z hqj hnl hsm hneg
        go_upto_region 11 with fail
        refine wp_region_classX [21] (C := RiC W.heap.size j) (by kernel_rfl) ?_
        (refine wpAnyX_take (i := 0) (v := ?_) (HRC.out _ hBd) rfl (by kernel_rfl) (by kernel_rfl) (by kernel_rfl) (by kernel_rfl) (fun _ _ _ h => h) (Or.inl ⟨by kernel_rfl, ?_⟩) ?_; rotate_left; (intro w hc; have k0 := hc.name; have k1 := hc.most; clear hc; go_simp; try with_reducible rfl))
        (refine wpAnyX_take (i := 1) (v := ?_) (HRC.out _ hBd) rfl (by kernel_rfl) (by kernel_rfl) (by kernel_rfl) (by kernel_rfl) (fun _ _ _ h => h) (Or.inl ⟨by kernel_rfl, ?_⟩) ?_; rotate_left; (intro w hc; have k0 := hc.name; have k1 := hc.most; clear hc; go_simp; try with_reducible rfl))
        (refine wpAnyX_take (i := 2) (v := ?_) (HRC.out _ hBd) rfl (by kernel_rfl) (by kernel_rfl) (by kernel_rfl) (by kernel_rfl) (fun _ _ _ h => h) (Or.inl ⟨by kernel_rfl, ?_⟩) ?_; rotate_left; (intro w hc; have k0 := hc.name; have k1 := hc.most; clear hc; go_simp; try with_reducible rfl))
        (refine wpAnyX_take (i := 3) (v := ?_) (HRC.out _ hBd) rfl (by kernel_rfl) (by kernel_rfl) (by kernel_rfl) (by kernel_rfl) (fun _ _ _ h => h) (Or.inl ⟨by kernel_rfl, ?_⟩) ?_; rotate_left; (intro w hc; have k0 := hc.name; have k1 := hc.most; clear hc; go_simp; try with_reducible rfl))
        (refine wpAnyX_take (i := 4) (v := ?_) (HRC.out _ hBd) rfl (by kernel_rfl) (by kernel_rfl) (by kernel_rfl) (by kernel_rfl) (fun _ _ _ h => h) (Or.inl ⟨by kernel_rfl, ?_⟩) ?_; rotate_left; (intro w hc; have k0 := hc.name; have k1 := hc.most; clear hc; go_simp; try with_reducible rfl))
        go_simp
        (refine wpAnyX_take (i := 5) (v := ?_) (HRC.out _ hBd) rfl (by kernel_rfl) (by kernel_rfl) (by kernel_rfl) (by kernel_rfl) (fun _ _ _ h => h) (Or.inl ⟨by kernel_rfl, ?_⟩) ?_; rotate_left; (intro w hc; have k0 := hc.name; have k1 := hc.most; clear hc; go_simp; try with_reducible rfl))
        (refine wpAnyX_take (i := 6) (v := ?_) (HRC.out _ hBd) rfl (by kernel_rfl) (by kernel_rfl) (by kernel_rfl) (by kernel_rfl) (fun _ _ _ h => h) (Or.inl ⟨by kernel_rfl, ?_⟩) ?_; rotate_left; (intro w hc; have k0 := hc.name; have k1 := hc.most; clear hc; go_simp; try with_reducible rfl))
        (refine wpAnyX_take (i := 7) (v := ?_) (HRC.out _ hBd) rfl (by kernel_rfl) (by kernel_rfl) (by kernel_rfl) (by kernel_rfl) (fun _ _ _ h => h) (Or.inl ⟨by kernel_rfl, ?_⟩) ?_; rotate_left; (intro w hc; have k0 := hc.name; have k1 := hc.most; clear hc; go_simp; try with_reducible rfl))
        (refine wpAnyX_take (i := 8) (v := ?_) (HRC.out _ hBd) rfl (by kernel_rfl) (by kernel_rfl) (by kernel_rfl) (by kernel_rfl) (fun _ _ _ h => h) (Or.inl ⟨by kernel_rfl, ?_⟩) ?_; rotate_left; (intro w hc; have k0 := hc.name; have k1 := hc.most; clear hc; go_simp; try with_reducible rfl))
        (refine wpAnyX_take (i := 9) (v := ?_) (HRC.out _ hBd) rfl (by kernel_rfl) (by kernel_rfl) (by kernel_rfl) (by kernel_rfl) (fun _ _ _ h => h) (Or.inl ⟨by kernel_rfl, ?_⟩) ?_; rotate_left; (intro w hc; have k0 := hc.name; have k1 := hc.most; clear hc; go_simp; try with_reducible rfl))
        go_simp
        (refine wpAnyX_take (i := 10) (v := ?_) (HRC.out _ hBd) rfl (by kernel_rfl) (by kernel_rfl) (by kernel_rfl) (by kernel_rfl) (fun _ _ _ h => h) (Or.inl ⟨by kernel_rfl, ?_⟩) ?_; rotate_left; (intro w hc; have k0 := hc.name; have k1 := hc.most; clear hc; go_simp; try with_reducible rfl))
        (refine wpAnyX_take (i := 11) (v := ?_) (HRC.out _ hBd) rfl (by kernel_rfl) (by kernel_rfl) (by kernel_rfl) (by kernel_rfl) (fun _ _ _ h => h) (Or.inl ⟨by kernel_rfl, ?_⟩) ?_; rotate_left; (intro w hc; have k0 := hc.name; have k1 := hc.most; clear hc; go_simp; try with_reducible rfl))
        (refine wpAnyX_take (i := 12) (v := ?_) (HRC.out _ hBd) rfl (by kernel_rfl) (by kernel_rfl) (by kernel_rfl) (by kernel_rfl) (fun _ _ _ h => h) (Or.inl ⟨by kernel_rfl, ?_⟩) ?_; rotate_left; (intro w hc; have k0 := hc.name; have k1 := hc.most; clear hc; go_simp; try with_reducible rfl))
        go_simp
        (refine wpAnyX_take (i := 14) (v := ?_) (HRC.out _ hBd) rfl (by kernel_rfl) (by kernel_rfl) (by kernel_rfl) (by kernel_rfl) (fun _ _ _ h => h) (Or.inl ⟨by kernel_rfl, ?_⟩) ?_; rotate_left; (intro w hc; have k0 := hc.name; have k1 := hc.most; clear hc; go_simp; try with_reducible rfl))
        (refine wpAnyX_take (i := 15) (v := ?_) (HRC.out _ hBd) rfl (by kernel_rfl) (by kernel_rfl) (by kernel_rfl) (by kernel_rfl) (fun _ _ _ h => h) (Or.inl ⟨by kernel_rfl, ?_⟩) ?_; rotate_left; (intro w hc; have k0 := hc.name; have k1 := hc.most; clear hc; go_simp; try with_reducible rfl))
        (refine wpAnyX_take (i := 16) (v := ?_) (HRC.out _ hBd) rfl (by kernel_rfl) (by kernel_rfl) (by kernel_rfl) (by kernel_rfl) (fun _ _ _ h => h) (Or.inl ⟨by kernel_rfl, ?_⟩) ?_; rotate_left; (intro w hc; have k0 := hc.name; have k1 := hc.most; clear hc; go_simp; try with_reducible rfl))
        (refine wpAnyX_take (i := 17) (v := ?_) (HRC.out _ hBd) rfl (by kernel_rfl) (by kernel_rfl) (by kernel_rfl) (by kernel_rfl) (fun _ _ _ h => h) (Or.inl ⟨by kernel_rfl, ?_⟩) ?_; rotate_left; (intro w hc; have k0 := hc.name; have k1 := hc.most; clear hc; go_simp; try with_reducible rfl))
        (refine wpAnyX_take (i := 18) (v := ?_) (HRC.out _ hBd) rfl (by kernel_rfl) (by kernel_rfl) (by kernel_rfl) (by kernel_rfl) (fun _ _ _ h => h) (Or.inl ⟨by kernel_rfl, ?_⟩) ?_; rotate_left; (intro w hc; have k0 := hc.name; have k1 := hc.most; clear hc; go_simp; try with_reducible rfl))
        go_simp
        refine wpAnyX_one (i := 13) (by kernel_rfl) (wpOp_wanted rfl (by rfl) ?_)
        go_simp
        refine (kT _).mono ?_
        rintro e w4 ⟨rfl, rfl⟩
        refine ⟨HRC.out _ hBd, ?_⟩
        refine wpAnyX_one (i := 19) (by kernel_rfl) (wpOp_wanted rfl (by rfl) ?_)
        go_simp
        refine (kA _).mono ?_
        rintro e w5 ⟨av, rfl, hrow, hb5⟩
        have hB5 : Below wr.heap.size wr w5 := hBd.trans (hb5.mono hBd.size)
        have hs5 : w.heap.size ≤ wr.heap.size := hB2.size
        have hrow2 := own_mono hrow hs5
        obtain ⟨a0, ac, rfl⟩ := own_len hrow
        refine ⟨HRC.out _ hB5, ?_⟩
        refine wpAnyX_one (i := 20) (by kernel_rfl) (wpOp_wanted rfl (by rfl) ?_)
        go_simp
        refine ⟨HRC.out _ hB5, ?_⟩
        have hx5 := HX0.out.below hB5
        have c0 := hx5.c0
        have c1 := hx5.c1
        have c2 := hx5.c2
        have c3 := hx5.c3
        have f0 := hx5.fz 0
        have f1 := hx5.fz 1
        have f2 := hx5.fz 2
        have f3 := hx5.fz 3
        have HX := hide' hx5
        have HR5 := hide' hrow2
        have HB5 := hide' hB5
        clear hb5 hB5 hrow hrow2 hBd HRC hs5 hx5
        refine wpAnyX_one (i := 21) (by kernel_rfl) (wpOp_wanted rfl (by rfl) ?_)
        go_simp
        refine wpAnyX_done (by kernel_rfl) ?_ _
        go_wp2
        have hx3 := HX.out.set (k' := 3) (t' := ⟨#[]⟩) (n' := nmA j) (a' := .slice a0 (List.length R) ac)
        have e0 := hx3.c0
        have e1 := hx3.c1
        have e2 := hx3.c2
        have e3 := hx3.c3
        refine bodyPost_ret (by simp [results, Tryd.results27, go_sem, e0, e1, e2, e3]; rfl) rfl ?_
        have hBz := hB2.trans (HB5.out.mono hB2.size)
        refine ⟨_, rfl, ⟨.slice a0 (List.length R) ac, ?_, ?_⟩, put4_below hBz (Nat.le_refl _) _ _ _ _⟩
        · rw [HP.out]
          rfl
        · rw [HP.out]
          have hXo : Bx4 _ _ _ _ _ _ := HX.out
          refine own_kept HR5.out fun g hg => put4_other _ _ _ (fun e => ?_) _ _ _ _
          subst e
          exact own_block HR5.out hXo (by decide) hg
end Go.Proofs.YtaemmgllhmjceaaDoor
