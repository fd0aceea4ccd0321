/- The contract of rule.Take. -/
import Derived.Test.YthkjinhnnilalaaGreatDoorRHd
namespace Go.Proofs.YthkjinhnnilalaaGreatDoor
open Go.RowKit Go.Shelf

/-- a line, taken apart -/
def takeB (s : ByteArray) : Hd := match scn [61, 58] (tl s) (s.size + 1) 0 with
  | none => ⟨0, s, nil, nil, nil, 0, false, false⟩
  | some q => if setB s q then asB s q else
    ⟨(rhB (s.extract (q + (sepP ((tl s).drop q)).1) s.size)).k, s.extract 0 q, (rhB (s.extract (q + (sepP ((tl s).drop q)).1) s.size)).r, (rhB (s.extract (q + (sepP ((tl s).drop q)).1) s.size)).n, (rhB (s.extract (q + (sepP ((tl s).drop q)).1) s.size)).c, (rhB (s.extract (q + (sepP ((tl s).drop q)).1) s.size)).s, decide (1 < (sepP ((tl s).drop q)).1), (rhB (s.extract (q + (sepP ((tl s).drop q)).1) s.size)).h⟩
set_option maxRecDepth 100000 in
set_option maxHeartbeats 4000000 in
theorem take_any (s : ByteArray) (hs : s.size ≤ 100000) (w : World) : Calls Tryz.prog 16 #[.string s] w fun e w' => e = .returned (hv (takeB s)) ∧ Below w.heap.size w w' := by
  have hx := bx8_new w
  have hB : Below w.heap.size w (w.alloc (.cells #[.int .i64 0, .string ⟨#[]⟩, .string ⟨#[]⟩, .string ⟨#[]⟩, .string ⟨#[]⟩, .int .i64 0, .bool false, .bool false] 36)) := (Below.refl _ w).alloc (Nat.le_refl _) _
  generalize hW : w.alloc (.cells #[.int .i64 0, .string ⟨#[]⟩, .string ⟨#[]⟩, .string ⟨#[]⟩, .string ⟨#[]⟩, .int .i64 0, .bool false, .bool false] 36) = W at hx hB
  have HW := hide' hW
  clear hW
  have kS : ∀ w, Calls Tryz.prog 31 #[.string s, .string ⟨#[61, 58]⟩] w fun e w' => e = .returned (.int .i64 (clI (scn [61, 58] (tl s) (s.size + 1) 0))) ∧ Below w.heap.size w w' := fun w => scan_any s ⟨#[61, 58]⟩ hs (by decide) w
  cases hq : scn [61, 58] (tl s) (s.size + 1) 0 with
  | none =>
    have hT : takeB s = ⟨0, s, nil, nil, nil, 0, false, false⟩ := by unfold takeB; rw [hq]
    rw [hT]
    rw [hq] at kS
    simp only [clI] at kS
    have kC := fun w => Tx.clone_any s w (by omega)
    clear hT hq
    go_enter Tryz.func16, Tryz.ntmps16
    go_upto_region 1 with fail
    rw [HW.out]
    go_wp2_with (first | (go_at_call 31; refine (kS _).mono ?_; rintro e w1 ⟨rfl, hb1⟩) | (go_at_call 19; refine (kC _).mono ?_; rintro e w2 ⟨rfl, hb2⟩; have hx2 := (hx.below hb1).below hb2; have cc0 := hx2.c0; have cf0 := hx2.fz 0; have cc1 := hx2.c1; have cf1 := hx2.fz 1; have cc2 := hx2.c2; have cf2 := hx2.fz 2; have cc3 := hx2.c3; have cf3 := hx2.fz 3; have cc4 := hx2.c4; have cf4 := hx2.fz 4; have cc5 := hx2.c5; have cf5 := hx2.fz 5; have cc6 := hx2.c6; have cf6 := hx2.fz 6; have cc7 := hx2.c7; have cf7 := hx2.fz 7; have HX := hide' hx2; clear hx2))
    have hx9 := HX.out.set (k' := 0) (l' := s) (r' := ⟨#[]⟩) (n' := ⟨#[]⟩) (c' := ⟨#[]⟩) (s' := 0) (d' := false) (h' := false)
    have e0 := hx9.c0
    have e1 := hx9.c1
    have e2 := hx9.c2
    have e3 := hx9.c3
    have e4 := hx9.c4
    have e5 := hx9.c5
    have e6 := hx9.c6
    have e7 := hx9.c7
    refine bodyPost_ret (by simp [results, Tryz.results16, go_sem, e0, e1, e2, e3, e4, e5, e6, e7]; rfl) rfl ?_
    have hB1 := hB.trans (hb1.mono hB.size)
    exact ⟨rfl, put8_below (hB1.trans (hb2.mono hB1.size)) (Nat.le_refl _) _ _ _ _ _ _ _ _⟩
  | some q =>
    obtain ⟨hql, hqs⟩ := scn_is _ _ _ _ _ hq
    rw [tl_len] at hql
    have hg := getD_at s q hql
    rw [hq] at kS
    simp only [clI] at kS
    have hdr : tl (s.extract q s.size) = (tl s).drop q := by rw [ext_drop, tl_mk]
    have kP := fun w => sep_any (s.extract q s.size) w
    rw [hdr] at kP
    have hsl := sep_le ((tl s).drop q) (by rw [List.length_drop, tl_len]; omega)
    rw [List.length_drop, tl_len] at hsl
    have hAs : asB s q = asgB (s.extract 0 q) (s.extract (q + (sepP ((tl s).drop q)).1) s.size) (sepP ((tl s).drop q)).2 := rfl
    have hst : setB s q = ((sepP ((tl s).drop q)).2 || (s[q] == 61)) := by unfold setB; rw [hg]
    have hsc : takeB s = if setB s q then asB s q else ⟨(rhB (s.extract (q + (sepP ((tl s).drop q)).1) s.size)).k, s.extract 0 q, (rhB (s.extract (q + (sepP ((tl s).drop q)).1) s.size)).r, (rhB (s.extract (q + (sepP ((tl s).drop q)).1) s.size)).n, (rhB (s.extract (q + (sepP ((tl s).drop q)).1) s.size)).c, (rhB (s.extract (q + (sepP ((tl s).drop q)).1) s.size)).s, decide (1 < (sepP ((tl s).drop q)).1), (rhB (s.extract (q + (sepP ((tl s).drop q)).1) s.size)).h⟩ := by
      unfold takeB
      rw [hq]
    generalize hsz : (sepP ((tl s).drop q)).1 = sz at kP hsl hAs hsc
    have kA := fun w => asg_any (s.extract 0 q) (s.extract (q + sz) s.size) (sepP ((tl s).drop q)).2 (by rw [ByteArray.size_extract]; omega) (by rw [ByteArray.size_extract]; omega) w
    rw [← hAs] at kA
    have eadd : (q : Int) + (sz : Int) = ((q + sz : Nat) : Int) := by omega
    have sT := sl_to s q (by omega)
    have sF := sl_from s (q + sz) (by omega)
    have sF2 := sF
    rw [← eadd] at sF
    have hwr : IntKind.i64.wrap ((q : Int) + (sz : Int)) = (q : Int) + (sz : Int) := i64_id _ ⟨by omega, by omega⟩
    have hle1 : (q : Int) + (sz : Int) ≤ 100000 := by omega
    cases hgo : setB s q with
    | false =>
      have hn : (sepP ((tl s).drop q)).2 = false ∧ ¬ s[q] = 61 := by
        rw [hgo] at hst
        have := hst.symm
        rw [Bool.or_eq_false_iff] at this
        exact ⟨this.1, beq_eq_false_iff_ne.1 this.2⟩
      have kR := fun w => rh_any (s.extract (q + sz) s.size) (by rw [ByteArray.size_extract]; omega) w
      have kC := fun w => Tx.clone_any (s.extract 0 q) w (by rw [ByteArray.size_extract]; omega)
      rw [hsc, hgo, if_neg (by decide)]
      generalize rhB (s.extract (q + sz) s.size) = H at kR
      obtain ⟨Hk, Hl, Hr, Hn, Hc, Hs, Hdd, Hh⟩ := H
      simp only [hv] at kR
      have d3 : ((s[q].toNat : Int) == 61) = false := beq_no _ 61 61 rfl hn.2
      have d4 : ¬ (s[q].toNat : Int) = 61 := fun h => hn.2 (UInt8.toNat_inj.1 (by have e9 : (61 : UInt8).toNat = 61 := rfl; omega))
      rw [hn.1] at kP
      generalize hdz : decide (1 < sz) = dz
      have hdz1 : decide ((1 : Int) < (sz : Int)) = dz := by rw [← hdz]; exact decide_eq_decide.2 (by omega)
      clear hq hqs hg hsc hst hAs kA hn hdr hsz hgo hsl hs hdz eadd
      generalize hE : s.extract q s.size = E at kP
      go_enter Tryz.func16, Tryz.ntmps16
      go_upto_region 1 with fail
      rw [HW.out]
      go_upto_region 5 with (first | (go_at_call 31; refine (kS _).mono ?_; rintro e w1 ⟨rfl, hb1⟩) | (go_at_call 32; (try rw [hE]); refine (kP _).mono ?_; rintro e w2 ⟨rfl, rfl⟩))
      go_region
      go_upto_region 9 with (go_at_call 34; refine (kR _).mono ?_; rintro e w3 ⟨rfl, hb3⟩)
      have hx2 := (hx.below hb1).drew.below hb3
      have hB1 := (hB.trans (hb1.mono hB.size)).trans (below_drewn 1)
      have hB2 := hB1.trans (hb3.mono hB1.size)
      have hy2 := bx8_at w3 Hk Hl Hr Hn Hc Hs Hdd Hh
      have hx3 := hx2.alloc (.cells #[.int .i64 Hk, .string Hl, .string Hr, .string Hn, .string Hc, .int .i64 Hs, .bool Hdd, .bool Hh] 36)
      have hlt := hx2.lt
      have hB3 := hB2.alloc hB2.size (.cells #[.int .i64 Hk, .string Hl, .string Hr, .string Hn, .string Hc, .int .i64 Hs, .bool Hdd, .bool Hh] 36)
      generalize hA : w3.heap.size = A at hy2 hlt
      generalize hW3 : w3.alloc (.cells #[.int .i64 Hk, .string Hl, .string Hr, .string Hn, .string Hc, .int .i64 Hs, .bool Hdd, .bool Hh] 36) = W3 at hx3 hy2 hB3
      have HW3 := hide' hW3
      have HA := hide' hA
      clear hW3 hx2 hx hb1 hb3 hB1 hB2 hA hB
      go_wp2_with (go_at_call 19; refine (kC _).mono ?_; rintro e w4 ⟨rfl, hb4⟩; have hx4 := hx3.below hb4; have hy4 := hy2.below hb4; have cc0 := hx4.c0; have cf0 := hx4.fz 0; have cc1 := hx4.c1; have cf1 := hx4.fz 1; have cc2 := hx4.c2; have cf2 := hx4.fz 2; have cc3 := hx4.c3; have cf3 := hx4.fz 3; have cc4 := hx4.c4; have cf4 := hx4.fz 4; have cc5 := hx4.c5; have cf5 := hx4.fz 5; have cc6 := hx4.c6; have cf6 := hx4.fz 6; have cc7 := hx4.c7; have cf7 := hx4.fz 7; have yc0 := hy4.c0; have yf0 := hy4.fz 0; have yc1 := hy4.c1; have yf1 := hy4.fz 1; have yc2 := hy4.c2; have yf2 := hy4.fz 2; have yc3 := hy4.c3; have yf3 := hy4.fz 3; have yc4 := hy4.c4; have yf4 := hy4.fz 4; have yc5 := hy4.c5; have yf5 := hy4.fz 5; have yc6 := hy4.c6; have yf6 := hy4.fz 6; have yc7 := hy4.c7; have yf7 := hy4.fz 7; have HX := hide' hx4; have HY := hide' hy4; clear hx4 hy4)
      have hne : w.heap.size ≠ A := by omega
      have hx9 := ((HX.out.other hne 1 (.string (s.extract 0 q))).other hne 6 (.bool dz)).set (k' := Hk) (l' := (s.extract 0 q)) (r' := Hr) (n' := Hn) (c' := Hc) (s' := Hs) (d' := dz) (h' := Hh)
      have e0 := hx9.c0
      have e1 := hx9.c1
      have e2 := hx9.c2
      have e3 := hx9.c3
      have e4 := hx9.c4
      have e5 := hx9.c5
      have e6 := hx9.c6
      have e7 := hx9.c7
      refine bodyPost_ret (by simp [results, Tryz.results16, go_sem, e0, e1, e2, e3, e4, e5, e6, e7]; rfl) rfl ?_
      have hB4 := hB3.trans (hb4.mono hB3.size)
      have hbA : w.heap.size ≤ A := by omega
      exact ⟨rfl, put8_below ((hB4.setCell (p := ⟨A, 1, none⟩) hbA _).setCell (p := ⟨A, 6, none⟩) hbA _) (Nat.le_refl _) _ _ _ _ _ _ _ _⟩
    | true =>
      have hpk : ∃ sm, (sepP ((tl s).drop q)).2 = sm ∧ (sm = false → (s[q].toNat : Int) = 61) := ⟨_, rfl, fun h => by
        rw [hgo, h, Bool.false_or] at hst
        have := eq_of_beq hst.symm
        rw [this]
        rfl⟩
      obtain ⟨sm, hsm, h61⟩ := hpk
      rw [hsm] at kP kA
      rw [hsc, hgo, if_pos rfl]
      generalize asB s q = H at kA
      obtain ⟨Hk, Hl, Hr, Hn, Hc, Hs, Hdd, Hh⟩ := H
      simp only [hv] at kA
      clear hq hqs hg hsc hst hAs hdr hsz hsm hgo hsl hs eadd
      generalize hE : s.extract q s.size = E at kP
      cases sm with
      | true =>
        clear h61
        go_enter Tryz.func16, Tryz.ntmps16
        go_upto_region 1 with fail
        rw [HW.out]
        go_upto_region 5 with (first | (go_at_call 31; refine (kS _).mono ?_; rintro e w1 ⟨rfl, hb1⟩) | (go_at_call 32; (try rw [hE]); refine (kP _).mono ?_; rintro e w2 ⟨rfl, rfl⟩))
        go_region
        go_wp2_with (go_at_call 33; refine (kA _).mono ?_; rintro e w3 ⟨rfl, hb3⟩; have hx3 := (hx.below hb1).drew.below hb3; have cc0 := hx3.c0; have cf0 := hx3.fz 0; have cc1 := hx3.c1; have cf1 := hx3.fz 1; have cc2 := hx3.c2; have cf2 := hx3.fz 2; have cc3 := hx3.c3; have cf3 := hx3.fz 3; have cc4 := hx3.c4; have cf4 := hx3.fz 4; have cc5 := hx3.c5; have cf5 := hx3.fz 5; have cc6 := hx3.c6; have cf6 := hx3.fz 6; have cc7 := hx3.c7; have cf7 := hx3.fz 7; have HX := hide' hx3; clear hx3)
        have hx9 := HX.out.set (k' := Hk) (l' := Hl) (r' := Hr) (n' := Hn) (c' := Hc) (s' := Hs) (d' := Hdd) (h' := Hh)
        have e0 := hx9.c0
        have e1 := hx9.c1
        have e2 := hx9.c2
        have e3 := hx9.c3
        have e4 := hx9.c4
        have e5 := hx9.c5
        have e6 := hx9.c6
        have e7 := hx9.c7
        refine bodyPost_ret (by simp [results, Tryz.results16, go_sem, e0, e1, e2, e3, e4, e5, e6, e7]; rfl) rfl ?_
        have hB1 := (hB.trans (hb1.mono hB.size)).trans (below_drewn 1)
        exact ⟨rfl, put8_below (hB1.trans (hb3.mono hB1.size)) (Nat.le_refl _) _ _ _ _ _ _ _ _⟩
      | false =>
        have h6 := h61 rfl
        have d3 : ((s[q].toNat : Int) == 61) = true := by rw [h6]; rfl
        clear h61
        go_enter Tryz.func16, Tryz.ntmps16
        go_upto_region 1 with fail
        rw [HW.out]
        go_upto_region 5 with (first | (go_at_call 31; refine (kS _).mono ?_; rintro e w1 ⟨rfl, hb1⟩) | (go_at_call 32; (try rw [hE]); refine (kP _).mono ?_; rintro e w2 ⟨rfl, rfl⟩))
        go_region
        go_wp2_with (go_at_call 33; refine (kA _).mono ?_; rintro e w3 ⟨rfl, hb3⟩; have hx3 := (hx.below hb1).drew.below hb3; have cc0 := hx3.c0; have cf0 := hx3.fz 0; have cc1 := hx3.c1; have cf1 := hx3.fz 1; have cc2 := hx3.c2; have cf2 := hx3.fz 2; have cc3 := hx3.c3; have cf3 := hx3.fz 3; have cc4 := hx3.c4; have cf4 := hx3.fz 4; have cc5 := hx3.c5; have cf5 := hx3.fz 5; have cc6 := hx3.c6; have cf6 := hx3.fz 6; have cc7 := hx3.c7; have cf7 := hx3.fz 7; have HX := hide' hx3; clear hx3)
        have hx9 := HX.out.set (k' := Hk) (l' := Hl) (r' := Hr) (n' := Hn) (c' := Hc) (s' := Hs) (d' := Hdd) (h' := Hh)
        have e0 := hx9.c0
        have e1 := hx9.c1
        have e2 := hx9.c2
        have e3 := hx9.c3
        have e4 := hx9.c4
        have e5 := hx9.c5
        have e6 := hx9.c6
        have e7 := hx9.c7
        refine bodyPost_ret (by simp [results, Tryz.results16, go_sem, e0, e1, e2, e3, e4, e5, e6, e7]; rfl) rfl ?_
        have hB1 := (hB.trans (hb1.mono hB.size)).trans (below_drewn 1)
        exact ⟨rfl, put8_below (hB1.trans (hb3.mono hB1.size)) (Nat.le_refl _) _ _ _ _ _ _ _ _⟩
end Go.Proofs.YthkjinhnnilalaaGreatDoor
