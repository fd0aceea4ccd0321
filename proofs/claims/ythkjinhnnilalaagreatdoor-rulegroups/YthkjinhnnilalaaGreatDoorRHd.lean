/- The contract of rule.ruleHead. -/
import Derived.Test.YthkjinhnnilalaaGreatDoorSco
namespace Go.Proofs.YthkjinhnnilalaaGreatDoor
open Go.RowKit Go.Shelf

/-- what stands behind a rule's separator -/
def rhB (b : ByteArray) : Hd := match scoB b with
  | some x => x
  | none => match scn [59] (tl b) (b.size + 1) 0 with
    | none => ⟨2, nil, b, nil, nil, 0, false, false⟩
    | some q => ⟨2, nil, b.extract 0 q, nil, pb (b.extract (q + 1) b.size), 0, false, true⟩
set_option maxRecDepth 100000 in
set_option maxHeartbeats 4000000 in
theorem rh_any (b : ByteArray) (hb : b.size ≤ 100000) (w : World) : Calls Tryz.prog 34 #[.string b] w fun e w' => e = .returned (hv (rhB b)) ∧ Below w.heap.size w w' := by
  have hx := bx8_new w
  have hB : Below w.heap.size w (w.alloc (.cells #[.int .i64 0, .string ⟨#[]⟩, .string ⟨#[]⟩, .string ⟨#[]⟩, .string ⟨#[]⟩, .int .i64 0, .bool false, .bool false] 36)) := (Below.refl _ w).alloc (Nat.le_refl _) _
  generalize hW : w.alloc (.cells #[.int .i64 0, .string ⟨#[]⟩, .string ⟨#[]⟩, .string ⟨#[]⟩, .string ⟨#[]⟩, .int .i64 0, .bool false, .bool false] 36) = W at hx hB
  have HW := hide' hW
  clear hW
  have kO := fun w => sco_any b hb w
  cases ho : scoB b with
  | some x =>
    have hR : rhB b = x := by unfold rhB; rw [ho]
    rw [hR]
    rw [ho] at kO
    obtain ⟨Hk, Hl, Hr, Hn, Hc, Hs, Hdd, Hh⟩ := x
    simp only [scoR, hv] at kO
    clear ho hR
    go_enter Tryz.func34, Tryz.ntmps34
    go_upto_region 1 with fail
    rw [HW.out]
    go_wp2_with (go_at_call 55; refine (kO _).mono ?_; rintro e w1 ⟨rfl, hb1⟩; have hx2 := hx.below hb1; have cc0 := fun o => (hx2.alloc o).c0; have cf0 := fun o => (hx2.alloc o).fz 0; have cc1 := fun o => (hx2.alloc o).c1; have cf1 := fun o => (hx2.alloc o).fz 1; have cc2 := fun o => (hx2.alloc o).c2; have cf2 := fun o => (hx2.alloc o).fz 2; have cc3 := fun o => (hx2.alloc o).c3; have cf3 := fun o => (hx2.alloc o).fz 3; have cc4 := fun o => (hx2.alloc o).c4; have cf4 := fun o => (hx2.alloc o).fz 4; have cc5 := fun o => (hx2.alloc o).c5; have cf5 := fun o => (hx2.alloc o).fz 5; have cc6 := fun o => (hx2.alloc o).c6; have cf6 := fun o => (hx2.alloc o).fz 6; have cc7 := fun o => (hx2.alloc o).c7; have cf7 := fun o => (hx2.alloc o).fz 7; have HX := hide' hx2; clear hx2)
    have hx9 := (HX.out.alloc (.cells #[.int .i64 Hk, .string Hl, .string Hr, .string Hn, .string Hc, .int .i64 Hs, .bool Hdd, .bool Hh] 36)).set (k' := Hk) (l' := Hl) (r' := Hr) (n' := Hn) (c' := Hc) (s' := Hs) (d' := Hdd) (h' := Hh)
    have e0 := hx9.c0
    have e1 := hx9.c1
    have e2 := hx9.c2
    have e3 := hx9.c3
    have e4 := hx9.c4
    have e5 := hx9.c5
    have e6 := hx9.c6
    have e7 := hx9.c7
    refine bodyPost_ret (by simp [results, Tryz.results34, go_sem, e0, e1, e2, e3, e4, e5, e6, e7]; rfl) rfl ?_
    have hB1 := hB.trans (hb1.mono hB.size)
    exact ⟨rfl, put8_below (hB1.alloc hB1.size _) (Nat.le_refl _) _ _ _ _ _ _ _ _⟩
  | none =>
    rw [ho] at kO
    simp only [scoR, hv, hd0, nil] at kO
    have kS : ∀ w, Calls Tryz.prog 31 #[.string b, .string ⟨#[59]⟩] w fun e w' => e = .returned (.int .i64 (clI (scn [59] (tl b) (b.size + 1) 0))) ∧ Below w.heap.size w w' := fun w => scan_any b ⟨#[59]⟩ hb (by decide) w
    cases hq : scn [59] (tl b) (b.size + 1) 0 with
    | none =>
      have hR : rhB b = ⟨2, nil, b, nil, nil, 0, false, false⟩ := by unfold rhB; rw [ho]; simp only; rw [hq]
      rw [hR]
      rw [hq] at kS
      simp only [clI] at kS
      have kC := fun w => Tx.clone_any b w (by omega)
      clear ho hR hq
      go_enter Tryz.func34, Tryz.ntmps34
      go_upto_region 1 with fail
      rw [HW.out]
      go_wp2_with (first | (go_at_call 55; refine (kO _).mono ?_; rintro e w1 ⟨rfl, hb1⟩; have hx2 := (hx.below hb1).alloc (.cells #[.int .i64 0, .string ⟨#[]⟩, .string ⟨#[]⟩, .string ⟨#[]⟩, .string ⟨#[]⟩, .int .i64 0, .bool false, .bool false] 36)) | (go_at_call 31; refine (kS _).mono ?_; rintro e w3 ⟨rfl, hb3⟩) | (go_at_call 19; refine (kC _).mono ?_; rintro e w4 ⟨rfl, hb4⟩; have hx4 := (hx2.below hb3).below hb4; have cc0 := hx4.c0; have cf0 := hx4.fz 0; have cc1 := hx4.c1; have cf1 := hx4.fz 1; have cc2 := hx4.c2; have cf2 := hx4.fz 2; have cc3 := hx4.c3; have cf3 := hx4.fz 3; have cc4 := hx4.c4; have cf4 := hx4.fz 4; have cc5 := hx4.c5; have cf5 := hx4.fz 5; have cc6 := hx4.c6; have cf6 := hx4.fz 6; have cc7 := hx4.c7; have cf7 := hx4.fz 7; have HX := hide' hx4; clear hx4))
      have hx9 := HX.out.set (k' := 2) (l' := ⟨#[]⟩) (r' := b) (n' := ⟨#[]⟩) (c' := ⟨#[]⟩) (s' := 0) (d' := false) (h' := false)
      have e0 := hx9.c0
      have e1 := hx9.c1
      have e2 := hx9.c2
      have e3 := hx9.c3
      have e4 := hx9.c4
      have e5 := hx9.c5
      have e6 := hx9.c6
      have e7 := hx9.c7
      refine bodyPost_ret (by simp [results, Tryz.results34, go_sem, e0, e1, e2, e3, e4, e5, e6, e7]; rfl) rfl ?_
      have hB1 := hB.trans (hb1.mono hB.size)
      have hB2 := hB1.alloc hB1.size (.cells #[.int .i64 0, .string ⟨#[]⟩, .string ⟨#[]⟩, .string ⟨#[]⟩, .string ⟨#[]⟩, .int .i64 0, .bool false, .bool false] 36)
      have hB3 := hB2.trans (hb3.mono hB2.size)
      have hB4 := hB3.trans (hb4.mono hB3.size)
      exact ⟨rfl, put8_below hB4 (Nat.le_refl _) _ _ _ _ _ _ _ _⟩
    | some q =>
      obtain ⟨hql, hqs⟩ := scn_is _ _ _ _ _ hq
      rw [tl_len] at hql
      have hR : rhB b = ⟨2, nil, b.extract 0 q, nil, pb (b.extract (q + 1) b.size), 0, false, true⟩ := by unfold rhB; rw [ho]; simp only; rw [hq]
      rw [hR]
      rw [hq] at kS
      simp only [clI] at kS
      have kC := fun w => Tx.clone_any (b.extract 0 q) w (by rw [ByteArray.size_extract]; omega)
      have kP := fun w => past_any (b.extract (q + 1) b.size) (by rw [ByteArray.size_extract]; omega) w
      have sT := sl_to b q (by omega)
      have sF := sl_from b (q + 1) (by omega)
      have sF2 := sF
      rw [show ((q + 1 : Nat) : Int) = (q : Int) + 1 by omega] at sF
      have hwr : IntKind.i64.wrap ((q : Int) + 1) = (q : Int) + 1 := i64_id _ ⟨by omega, by omega⟩
      generalize pb (b.extract (q + 1) b.size) = Pb at kP
      clear ho hR hq hqs hb
      go_enter Tryz.func34, Tryz.ntmps34
      go_upto_region 1 with fail
      rw [HW.out]
      go_upto_region 7 with (first | (go_at_call 55; refine (kO _).mono ?_; rintro e w1 ⟨rfl, hb1⟩; have hx2 := (hx.below hb1).alloc (.cells #[.int .i64 0, .string ⟨#[]⟩, .string ⟨#[]⟩, .string ⟨#[]⟩, .string ⟨#[]⟩, .int .i64 0, .bool false, .bool false] 36)) | (go_at_call 31; refine (kS _).mono ?_; rintro e w3 ⟨rfl, hb3⟩))
      have hB1 := hB.trans (hb1.mono hB.size)
      have hB2 := hB1.alloc hB1.size (.cells #[.int .i64 0, .string ⟨#[]⟩, .string ⟨#[]⟩, .string ⟨#[]⟩, .string ⟨#[]⟩, .int .i64 0, .bool false, .bool false] 36)
      have hB3 := hB2.trans (hb3.mono hB2.size)
      have hx3 := hx2.below hb3
      clear hx2 hx hB2 hB1 hb3 hb1 hB kO kS
      refine wp_region_classX [] (C := TrC) (by kernel_rfl) ?_
      (refine wpAnyX_take (i := 0) (v := ?_) (tr_c _) rfl (by kernel_rfl) (by kernel_rfl) (by kernel_rfl) (by kernel_rfl) (fun _ _ _ h => h) (Or.inl ⟨by kernel_rfl, ?_⟩) ?_; rotate_left; (intro w hc; clear hc; go_simp; try with_reducible rfl))
      go_simp
      (refine wpAnyX_take (i := 1) (v := ?_) (tr_c _) rfl (by kernel_rfl) (by kernel_rfl) (by kernel_rfl) (by kernel_rfl) (fun _ _ _ h => h) (Or.inl ⟨by kernel_rfl, ?_⟩) ?_; rotate_left; (intro w hc; clear hc; go_simp; try with_reducible rfl))
      go_simp
      (refine wpAnyX_take (i := 2) (v := ?_) (tr_c _) rfl (by kernel_rfl) (by kernel_rfl) (by kernel_rfl) (by kernel_rfl) (fun _ _ _ h => h) (Or.inl ⟨by kernel_rfl, ?_⟩) ?_; rotate_left; (intro w hc; clear hc; go_simp; try with_reducible rfl))
      go_simp
      (refine wpAnyX_take (i := 4) (v := ?_) (tr_c _) rfl (by kernel_rfl) (by kernel_rfl) (by kernel_rfl) (by kernel_rfl) (fun _ _ _ h => h) (Or.inl ⟨by kernel_rfl, ?_⟩) ?_; rotate_left; (intro w hc; clear hc; go_simp; try with_reducible rfl))
      go_simp
      (refine wpAnyX_take (i := 5) (v := ?_) (tr_c _) rfl (by kernel_rfl) (by kernel_rfl) (by kernel_rfl) (by kernel_rfl) (fun _ _ _ h => h) (Or.inl ⟨by kernel_rfl, ?_⟩) ?_; rotate_left; (intro w hc; clear hc; go_simp; try with_reducible rfl))
      go_simp
      (refine wpAnyX_take (i := 6) (v := ?_) (tr_c _) rfl (by kernel_rfl) (by kernel_rfl) (by kernel_rfl) (by kernel_rfl) (fun _ _ _ h => h) (Or.inl ⟨by kernel_rfl, ?_⟩) ?_; rotate_left; (intro w hc; clear hc; go_simp; try with_reducible rfl))
      go_simp
      (refine wpAnyX_take (i := 7) (v := ?_) (tr_c _) rfl (by kernel_rfl) (by kernel_rfl) (by kernel_rfl) (by kernel_rfl) (fun _ _ _ h => h) (Or.inl ⟨by kernel_rfl, ?_⟩) ?_; rotate_left; (intro w hc; clear hc; go_simp; try with_reducible rfl))
      go_simp
      refine wpAnyX_one (i := 3) (by kernel_rfl) (wpOp_wanted rfl (by rfl) ?_)
      go_simp
      refine (kC _).mono ?_
      rintro e w4 ⟨rfl, hb4⟩
      (first | refine ⟨fun _ => tr_c _, ?_⟩ | refine ⟨tr_c _, ?_⟩)
      refine wpAnyX_one (i := 8) (by kernel_rfl) (wpOp_wanted rfl (by rfl) ?_)
      go_simp
      refine (kP _).mono ?_
      rintro e w5 ⟨rfl, hb5⟩
      (first | refine ⟨fun _ => tr_c _, ?_⟩ | refine ⟨tr_c _, ?_⟩)
      have hx5 := (hx3.drew.below hb4).below hb5
      have hB3d := hB3.trans (below_drewn 1)
      have hB4 := hB3d.trans (hb4.mono hB3d.size)
      have hB5 := hB4.trans (hb5.mono hB4.size)
      have cc0 := hx5.c0
      have cf0 := hx5.fz 0
      have cc1 := hx5.c1
      have cf1 := hx5.fz 1
      have cc2 := hx5.c2
      have cf2 := hx5.fz 2
      have cc3 := hx5.c3
      have cf3 := hx5.fz 3
      have cc4 := hx5.c4
      have cf4 := hx5.fz 4
      have cc5 := hx5.c5
      have cf5 := hx5.fz 5
      have cc6 := hx5.c6
      have cf6 := hx5.fz 6
      have cc7 := hx5.c7
      have cf7 := hx5.fz 7
      have HX := hide' hx5
      clear hx5 hx3 hb4 hb5 kC kP
      refine wpAnyX_one (i := 9) (by kernel_rfl) (wpOp_wanted rfl (by rfl) ?_)
      go_simp
      (first | refine ⟨fun _ => tr_c _, ?_⟩ | refine ⟨tr_c _, ?_⟩)
      refine wpAnyX_one (i := 10) (by kernel_rfl) (wpOp_wanted rfl (by rfl) ?_)
      go_simp
      (first | refine ⟨fun _ => tr_c _, ?_⟩ | refine ⟨tr_c _, ?_⟩)
      refine wpAnyX_done (by kernel_rfl) ?_ _
      go_wp2
      have hx9 := HX.out.set (k' := 2) (l' := ⟨#[]⟩) (r' := (b.extract 0 q)) (n' := ⟨#[]⟩) (c' := Pb) (s' := 0) (d' := false) (h' := true)
      have e0 := hx9.c0
      have e1 := hx9.c1
      have e2 := hx9.c2
      have e3 := hx9.c3
      have e4 := hx9.c4
      have e5 := hx9.c5
      have e6 := hx9.c6
      have e7 := hx9.c7
      refine bodyPost_ret (by simp [results, Tryz.results34, go_sem, e0, e1, e2, e3, e4, e5, e6, e7]; rfl) rfl ?_
      exact ⟨rfl, put8_below hB5 (Nat.le_refl _) _ _ _ _ _ _ _ _⟩
end Go.Proofs.YthkjinhnnilalaaGreatDoor
