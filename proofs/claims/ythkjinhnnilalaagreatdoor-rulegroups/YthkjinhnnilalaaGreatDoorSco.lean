/- The contract of rule.scoped. -/
import Derived.Test.YthkjinhnnilalaaGreatDoorAsg
import Derived.Test.YthkjinhnnilalaaGreatDoorScan
namespace Go.Proofs.YthkjinhnnilalaaGreatDoor
open Go.RowKit Go.Shelf

structure TrC (w : World) : Prop where
  t : w = w
theorem tr_c (w : World) : TrC w := ⟨rfl⟩
theorem wpAnyX_two {P : Program} {md : Region.Mode} {ops : Array Oper} {C : World → Prop} {X : List Nat} {Q : Exit → Act → World → Prop} {i j : Nat} {fuel : Nat} {listed : Array Bool} {a : Act} {w : World} (hr : Region.ready md ops listed = [i, j])
    (h1 : wpOp P ops Q i (fun a' w' => (X.contains i = false → C w') ∧ wpAnyX P md ops C X Q fuel (listed.setIfInBounds i true) a' w') a w) (h2 : wpOp P ops Q j (fun a' w' => (X.contains j = false → C w') ∧ wpAnyX P md ops C X Q fuel (listed.setIfInBounds j true) a' w') a w) : wpAnyX P md ops C X Q (fuel + 1) listed a w :=
  ⟨fun h0 => absurd (hr ▸ h0) (by simp), fun k hk => by
    rw [hr] at hk
    rcases List.mem_cons.1 hk with rfl | hk
    · exact h1
    · rw [List.mem_singleton] at hk; subst hk; exact h2⟩
theorem i64_id (n : Int) (h : -9223372036854775808 ≤ n ∧ n ≤ 9223372036854775807) : IntKind.i64.wrap n = n := by rw [IntKind.wrap_i64]; omega
theorem sl_to (s : ByteArray) (k : Nat) (h : k ≤ s.size) (W : World) : (Instr.slice 9 (.string s) none (some (.int .i64 k)) none).run Tryz.prog W = .ok (.string (s.extract 0 k)) W := by
  have := run_slice_string_to_if (P := Tryz.prog) (w := W) 9 s .i64 k Tryz.underlying9
  rw [this]
  simp
  omega
theorem sl_from (s : ByteArray) (k : Nat) (h : k ≤ s.size) (W : World) : (Instr.slice 9 (.string s) (some (.int .i64 k)) none none).run Tryz.prog W = .ok (.string (s.extract k s.size)) W := by
  have := run_slice_string_from_if (P := Tryz.prog) (w := W) 9 s .i64 k Tryz.underlying9
  rw [this]
  simp
  omega
theorem scn_is (st l : Bs) : ∀ (f k j : Nat), scn st l f k = some j → j < l.length ∧ stp st (l.getD j 0) = true := by
  intro f
  induction f with
  | zero => intro k j h; cases h
  | succ f ih =>
    intro k j h
    unfold scn at h
    split at h
    · rename_i hk
      split at h
      · rename_i h2
        cases h
        exact ⟨hk, h2.2⟩
      · exact ih _ _ h
    · cases h
theorem sep_le (l : Bs) (h : 1 ≤ l.length) : 1 ≤ (sepP l).1 ∧ (sepP l).1 ≤ l.length := by
  have key : ∀ p : Bs, Lib.hasPrefix l p = true → p.length ≤ l.length := fun p hp => (List.isPrefixOf_iff_prefix.1 hp).length_le
  unfold sepP
  split
  · rename_i h1; have := key _ h1; exact ⟨by decide, this⟩
  · split
    · rename_i h1; have := key _ h1; exact ⟨by decide, this⟩
    · split
      · exact ⟨by decide, h⟩
      · split
        · rename_i h1; have := key _ h1; exact ⟨by decide, this⟩
        · exact ⟨by decide, h⟩
theorem Bx8.put {w : World} {b A : Nat} {k s : Int} {l r n c : ByteArray} {d h : Bool} (x : Bx8 w b k l r n c s d h) (hne : b ≠ A) (k' : Int) (l' r' n' c' : ByteArray) (s' : Int) (d' h' : Bool) : Bx8 (put8 w A k' l' r' n' c' s' d' h') b k l r n c s d h :=
  (((((((x.other hne 0 _).other hne 1 _).other hne 2 _).other hne 3 _).other hne 4 _).other hne 5 _).other hne 6 _).other hne 7 _
/-- no head -/
abbrev hd0 : Hd := ⟨0, nil, nil, nil, nil, 0, false, false⟩
/-- does an assignment's separator stand at a place? -/
def setB (b : ByteArray) (q : Nat) : Bool := (sepP ((tl b).drop q)).2 || ((tl b).getD q 0 == 61)
/-- the assignment whose separator stands at a place -/
def asB (b : ByteArray) (q : Nat) : Hd := asgB (b.extract 0 q) (b.extract (q + (sepP ((tl b).drop q)).1) b.size) (sepP ((tl b).drop q)).2
/-- a target's variable -/
def scoB (b : ByteArray) : Option Hd := match scn [61, 58, 59] (tl b) (b.size + 1) 0 with
  | none => none
  | some q => if (tl b).getD q 0 = 59 then none else if setB b q then some ⟨3, nil, (asB b q).r, (asB b q).l, nil, (asB b q).s, false, false⟩ else none
def scoR (o : Option Hd) : Hd × Bool := match o with
  | some x => (x, true)
  | none => (hd0, false)
set_option maxRecDepth 100000 in
set_option maxHeartbeats 4000000 in
theorem sco_any (b : ByteArray) (hb : b.size ≤ 100000) (w : World) : Calls Tryz.prog 55 #[.string b] w fun e w' => e = .returned (.tuple #[hv (scoR (scoB b)).1, .bool (scoR (scoB b)).2]) ∧ Below w.heap.size w w' := by
  have hx := bx8_new w
  have hB : Below w.heap.size w (w.alloc (.cells #[.int .i64 0, .string ⟨#[]⟩, .string ⟨#[]⟩, .string ⟨#[]⟩, .string ⟨#[]⟩, .int .i64 0, .bool false, .bool false] 36)) := (Below.refl _ w).alloc (Nat.le_refl _) _
  generalize hW : w.alloc (.cells #[.int .i64 0, .string ⟨#[]⟩, .string ⟨#[]⟩, .string ⟨#[]⟩, .string ⟨#[]⟩, .int .i64 0, .bool false, .bool false] 36) = W at hx hB
  have HW := hide' hW
  clear hW
  have kS : ∀ w, Calls Tryz.prog 31 #[.string b, .string ⟨#[61, 58, 59]⟩] w fun e w' => e = .returned (.int .i64 (clI (scn [61, 58, 59] (tl b) (b.size + 1) 0))) ∧ Below w.heap.size w w' := fun w => scan_any b ⟨#[61, 58, 59]⟩ hb (by decide) w
  cases hq : scn [61, 58, 59] (tl b) (b.size + 1) 0 with
  | none =>
    have HS : Hid (scoR (scoB b) = (hd0, false)) := by
      show _ = _
      unfold scoB
      rw [hq]
      rfl
    rw [hq] at kS
    simp only [clI] at kS
    clear hq
    go_enter Tryz.func55, Tryz.ntmps55
    go_upto_region 1 with fail
    rw [HW.out]
    go_wp2_with (go_at_call 31; refine (kS _).mono ?_; rintro e w1 ⟨rfl, hb1⟩; have hx1 := hx.below hb1; have cc0 := hx1.c0; have cf0 := hx1.fz 0; have cc1 := hx1.c1; have cf1 := hx1.fz 1; have cc2 := hx1.c2; have cf2 := hx1.fz 2; have cc3 := hx1.c3; have cf3 := hx1.fz 3; have cc4 := hx1.c4; have cf4 := hx1.fz 4; have cc5 := hx1.c5; have cf5 := hx1.fz 5; have cc6 := hx1.c6; have cf6 := hx1.fz 6; have cc7 := hx1.c7; have cf7 := hx1.fz 7; have HX := hide' hx1; clear hx1)
    have hx9 := HX.out.set (k' := 0) (l' := ⟨#[]⟩) (r' := ⟨#[]⟩) (n' := ⟨#[]⟩) (c' := ⟨#[]⟩) (s' := 0) (d' := false) (h' := false)
    have e0 := hx9.c0
    have e1 := hx9.c1
    have e2 := hx9.c2
    have e3 := hx9.c3
    have e4 := hx9.c4
    have e5 := hx9.c5
    have e6 := hx9.c6
    have e7 := hx9.c7
    refine bodyPost_ret (by simp [results, Tryz.results55, go_sem, e0, e1, e2, e3, e4, e5, e6, e7]; rfl) rfl ?_
    rw [HS.out]
    exact ⟨rfl, put8_below (hB.trans (hb1.mono hB.size)) (Nat.le_refl _) _ _ _ _ _ _ _ _⟩
  | some q =>
    obtain ⟨hql, hqs⟩ := scn_is _ _ _ _ _ hq
    rw [tl_len] at hql
    have hg := getD_at b q hql
    rw [hq] at kS
    simp only [clI] at kS
    by_cases h59 : b[q] = 59
    · have HS : Hid (scoR (scoB b) = (hd0, false)) := by
        show _ = _
        unfold scoB
        rw [hq]
        simp only
        rw [hg, if_pos h59]
        rfl
      have d1 : ((b[q].toNat : Int) == 59) = true := beq_yes _ 59 59 rfl h59
      have d2 : (b[q].toNat : Int) = 59 := by rw [h59]; rfl
      clear hq hqs hg h59
      go_enter Tryz.func55, Tryz.ntmps55
      go_upto_region 1 with fail
      rw [HW.out]
      go_wp2_with (go_at_call 31; refine (kS _).mono ?_; rintro e w1 ⟨rfl, hb1⟩; have hx1 := hx.below hb1; have cc0 := hx1.c0; have cf0 := hx1.fz 0; have cc1 := hx1.c1; have cf1 := hx1.fz 1; have cc2 := hx1.c2; have cf2 := hx1.fz 2; have cc3 := hx1.c3; have cf3 := hx1.fz 3; have cc4 := hx1.c4; have cf4 := hx1.fz 4; have cc5 := hx1.c5; have cf5 := hx1.fz 5; have cc6 := hx1.c6; have cf6 := hx1.fz 6; have cc7 := hx1.c7; have cf7 := hx1.fz 7; have HX := hide' hx1; clear hx1)
      have hx9 := HX.out.set (k' := 0) (l' := ⟨#[]⟩) (r' := ⟨#[]⟩) (n' := ⟨#[]⟩) (c' := ⟨#[]⟩) (s' := 0) (d' := false) (h' := false)
      have e0 := hx9.c0
      have e1 := hx9.c1
      have e2 := hx9.c2
      have e3 := hx9.c3
      have e4 := hx9.c4
      have e5 := hx9.c5
      have e6 := hx9.c6
      have e7 := hx9.c7
      refine bodyPost_ret (by simp [results, Tryz.results55, go_sem, e0, e1, e2, e3, e4, e5, e6, e7]; rfl) rfl ?_
      rw [HS.out]
      exact ⟨rfl, put8_below (hB.trans (hb1.mono hB.size)) (Nat.le_refl _) _ _ _ _ _ _ _ _⟩
    · have d1 : ((b[q].toNat : Int) == 59) = false := beq_no _ 59 59 rfl h59
      have d2 : ¬ (b[q].toNat : Int) = 59 := fun h => h59 (UInt8.toNat_inj.1 (by have e9 : (59 : UInt8).toNat = 59 := rfl; omega))
      have hdr : tl (b.extract q b.size) = (tl b).drop q := by rw [ext_drop, tl_mk]
      have kP := fun w => sep_any (b.extract q b.size) w
      rw [hdr] at kP
      have hsl := sep_le ((tl b).drop q) (by rw [List.length_drop, tl_len]; omega)
      rw [List.length_drop, tl_len] at hsl
      have hAs : asB b q = asgB (b.extract 0 q) (b.extract (q + (sepP ((tl b).drop q)).1) b.size) (sepP ((tl b).drop q)).2 := rfl
      have hst : setB b q = ((sepP ((tl b).drop q)).2 || (b[q] == 61)) := by unfold setB; rw [hg]
      have hsc : scoB b = if setB b q then some ⟨3, nil, (asB b q).r, (asB b q).l, nil, (asB b q).s, false, false⟩ else none := by
        unfold scoB
        rw [hq]
        simp only
        rw [hg, if_neg h59]
      generalize hsz : (sepP ((tl b).drop q)).1 = sz at kP hsl hAs
      have kA := fun w => asg_any (b.extract 0 q) (b.extract (q + sz) b.size) (sepP ((tl b).drop q)).2 (by rw [ByteArray.size_extract]; omega) (by rw [ByteArray.size_extract]; omega) w
      rw [← hAs] at kA
      have eadd : (q : Int) + (sz : Int) = ((q + sz : Nat) : Int) := by omega
      cases hgo : setB b q with
      | false =>
        have hn : (sepP ((tl b).drop q)).2 = false ∧ ¬ b[q] = 61 := by
          rw [hgo] at hst
          have := hst.symm
          rw [Bool.or_eq_false_iff] at this
          exact ⟨this.1, beq_eq_false_iff_ne.1 this.2⟩
        have HS : Hid (scoR (scoB b) = (hd0, false)) := by
          show _ = _
          rw [hsc, hgo]
          rfl
        have d3 : ((b[q].toNat : Int) != 61) = true := bne_yes _ 61 61 rfl hn.2
        have d4 : ¬ (b[q].toNat : Int) = 61 := fun h => hn.2 (UInt8.toNat_inj.1 (by have e9 : (61 : UInt8).toNat = 61 := rfl; omega))
        rw [hn.1] at kP
        clear hq hqs hg h59 hsc hst hAs kA hn hdr hsz
        generalize hE : b.extract q b.size = E at kP
        go_enter Tryz.func55, Tryz.ntmps55
        go_upto_region 1 with fail
        rw [HW.out]
        go_wp2_with (first | (go_at_call 31; refine (kS _).mono ?_; rintro e w1 ⟨rfl, hb1⟩; have hx1 := hx.below hb1; have cc0 := hx1.c0; have cf0 := hx1.fz 0; have cc1 := hx1.c1; have cf1 := hx1.fz 1; have cc2 := hx1.c2; have cf2 := hx1.fz 2; have cc3 := hx1.c3; have cf3 := hx1.fz 3; have cc4 := hx1.c4; have cf4 := hx1.fz 4; have cc5 := hx1.c5; have cf5 := hx1.fz 5; have cc6 := hx1.c6; have cf6 := hx1.fz 6; have cc7 := hx1.c7; have cf7 := hx1.fz 7; have HX := hide' hx1; clear hx1) | (go_at_call 32; (try rw [hE]); refine (kP _).mono ?_; rintro e w2 ⟨rfl, rfl⟩))
        have hx9 := HX.out.set (k' := 0) (l' := ⟨#[]⟩) (r' := ⟨#[]⟩) (n' := ⟨#[]⟩) (c' := ⟨#[]⟩) (s' := 0) (d' := false) (h' := false)
        have e0 := hx9.c0
        have e1 := hx9.c1
        have e2 := hx9.c2
        have e3 := hx9.c3
        have e4 := hx9.c4
        have e5 := hx9.c5
        have e6 := hx9.c6
        have e7 := hx9.c7
        refine bodyPost_ret (by simp [results, Tryz.results55, go_sem, e0, e1, e2, e3, e4, e5, e6, e7]; rfl) rfl ?_
        rw [HS.out]
        exact ⟨rfl, put8_below (hB.trans (hb1.mono hB.size)) (Nat.le_refl _) _ _ _ _ _ _ _ _⟩
      | true =>
        have HS : Hid (scoR (scoB b) = (⟨3, nil, (asB b q).r, (asB b q).l, nil, (asB b q).s, false, false⟩, true)) := by
          show _ = _
          rw [hsc, hgo]
          rfl
        have hpk : ∃ sm, (sepP ((tl b).drop q)).2 = sm ∧ (sm = false → (b[q].toNat : Int) = 61) := ⟨_, rfl, fun h => by
          rw [hgo, h, Bool.false_or] at hst
          have := eq_of_beq hst.symm
          rw [this]
          rfl⟩
        obtain ⟨sm, hsm, h61⟩ := hpk
        rw [hsm] at kP kA
        rw [HS.out]
        generalize asB b q = H at kA
        obtain ⟨Hk, Hl, Hr, Hn, Hc, Hs, Hdd, Hh⟩ := H
        simp only [hv] at kA
        clear hq hqs hg h59 hsc hst hAs hdr hsz hsm HS hgo
        generalize hE : b.extract q b.size = E at kP
        have go : ∀ (W1 : World), Bx8 W1 w.heap.size 0 ⟨#[]⟩ ⟨#[]⟩ ⟨#[]⟩ ⟨#[]⟩ 0 false false → Below w.heap.size w W1 → True := fun _ _ _ => trivial
        cases sm with
        | true =>
          clear h61
          go_enter Tryz.func55, Tryz.ntmps55
          go_upto_region 1 with fail
          rw [HW.out]
          go_upto_region 7 with (first | (go_at_call 31; refine (kS _).mono ?_; rintro e w1 ⟨rfl, hb1⟩) | (go_at_call 32; (try rw [hE]); refine (kP _).mono ?_; rintro e w2 ⟨rfl, rfl⟩))
          have hx2 := hx.below hb1
          have hB2 := hB.trans (hb1.mono hB.size)
          clear hx hB hb1
          have sT := sl_to b q (by omega)
          have sF := sl_from b (q + sz) (by omega)
          have sF2 := sF
          rw [← eadd] at sF
          have hwr : IntKind.i64.wrap ((q : Int) + (sz : Int)) = (q : Int) + (sz : Int) := i64_id _ ⟨by omega, by omega⟩
          have hle1 : (q : Int) + (sz : Int) ≤ 100000 := by omega
          clear eadd kS kP hE d1 d2 go hsl hb
          refine wp_region_classX [] (C := TrC) (by kernel_rfl) ?_
          (refine wpAnyX_take (i := 0) (v := ?_) (tr_c _) rfl (by kernel_rfl) (by kernel_rfl) (by kernel_rfl) (by kernel_rfl) (fun _ _ _ h => h) (Or.inl ⟨by kernel_rfl, ?_⟩) ?_; rotate_left; (intro w hc; clear hc; go_simp; try with_reducible rfl))
          (refine wpAnyX_take (i := 1) (v := ?_) (tr_c _) rfl (by kernel_rfl) (by kernel_rfl) (by kernel_rfl) (by kernel_rfl) (fun _ _ _ h => h) (Or.inl ⟨by kernel_rfl, ?_⟩) ?_; rotate_left; (intro w hc; clear hc; go_simp; try with_reducible rfl))
          (refine wpAnyX_take (i := 2) (v := ?_) (tr_c _) rfl (by kernel_rfl) (by kernel_rfl) (by kernel_rfl) (by kernel_rfl) (fun _ _ _ h => h) (Or.inl ⟨by kernel_rfl, ?_⟩) ?_; rotate_left; (intro w hc; clear hc; go_simp; try with_reducible rfl))
          go_simp
          (refine wpAnyX_take (i := 3) (v := ?_) (tr_c _) rfl (by kernel_rfl) (by kernel_rfl) (by kernel_rfl) (by kernel_rfl) (fun _ _ _ h => h) (Or.inl ⟨by kernel_rfl, ?_⟩) ?_; rotate_left; (intro w hc; clear hc; go_simp; try with_reducible rfl))
          (refine wpAnyX_take (i := 4) (v := ?_) (tr_c _) rfl (by kernel_rfl) (by kernel_rfl) (by kernel_rfl) (by kernel_rfl) (fun _ _ _ h => h) (Or.inl ⟨by kernel_rfl, ?_⟩) ?_; rotate_left; (intro w hc; clear hc; go_simp; try with_reducible rfl))
          go_simp
          (refine wpAnyX_take (i := 5) (v := ?_) (tr_c _) rfl (by kernel_rfl) (by kernel_rfl) (by kernel_rfl) (by kernel_rfl) (fun _ _ _ h => h) (Or.inl ⟨by kernel_rfl, ?_⟩) ?_; rotate_left; (intro w hc; clear hc; go_simp; try with_reducible rfl))
          (refine wpAnyX_take (i := 6) (v := ?_) (tr_c _) rfl (by kernel_rfl) (by kernel_rfl) (by kernel_rfl) (by kernel_rfl) (fun _ _ _ h => h) (Or.inl ⟨by kernel_rfl, ?_⟩) ?_; rotate_left; (intro w hc; clear hc; go_simp; try with_reducible rfl))
          go_simp
          (refine wpAnyX_take (i := 7) (v := ?_) (tr_c _) rfl (by kernel_rfl) (by kernel_rfl) (by kernel_rfl) (by kernel_rfl) (fun _ _ _ h => h) (Or.inl ⟨by kernel_rfl, ?_⟩) ?_; rotate_left; (intro w hc; clear hc; go_simp; try with_reducible rfl))
          go_simp
          (refine wpAnyX_take (i := 8) (v := ?_) (tr_c _) rfl (by kernel_rfl) (by kernel_rfl) (by kernel_rfl) (by kernel_rfl) (fun _ _ _ h => h) (Or.inl ⟨by kernel_rfl, ?_⟩) ?_; rotate_left; (intro w hc; clear hc; go_simp; try with_reducible rfl))
          go_simp
          refine wpAnyX_two (i := 9) (j := 10) (by kernel_rfl) (wpOp_wanted rfl (by rfl) ?_) (wpOp_wanted rfl (by rfl) ?_)
          · go_simp
            refine (kA _).mono ?_
            rintro e w3 ⟨rfl, hb3⟩
            (first | refine ⟨fun _ => tr_c _, ?_⟩ | refine ⟨tr_c _, ?_⟩)
            refine wpAnyX_one (i := 10) (by kernel_rfl) (wpOp_wanted rfl (by rfl) ?_)
            go_simp
            (first | refine ⟨fun _ => tr_c _, ?_⟩ | refine ⟨tr_c _, ?_⟩)
            refine wpAnyX_one (i := 11) (by kernel_rfl) (wpOp_wanted rfl (by rfl) ?_)
            go_simp
            (first | refine ⟨fun _ => tr_c _, ?_⟩ | refine ⟨tr_c _, ?_⟩)
            refine wpAnyX_done (by kernel_rfl) ?_ _
            have hx3 := hx2.drew.below hb3
            have cc0 := fun o => (hx3.alloc o).c0
            have cf0 := fun o => (hx3.alloc o).fz 0
            have cc1 := fun o => (hx3.alloc o).c1
            have cf1 := fun o => (hx3.alloc o).fz 1
            have cc2 := fun o => (hx3.alloc o).c2
            have cf2 := fun o => (hx3.alloc o).fz 2
            have cc3 := fun o => (hx3.alloc o).c3
            have cf3 := fun o => (hx3.alloc o).fz 3
            have cc4 := fun o => (hx3.alloc o).c4
            have cf4 := fun o => (hx3.alloc o).fz 4
            have cc5 := fun o => (hx3.alloc o).c5
            have cf5 := fun o => (hx3.alloc o).fz 5
            have cc6 := fun o => (hx3.alloc o).c6
            have cf6 := fun o => (hx3.alloc o).fz 6
            have cc7 := fun o => (hx3.alloc o).c7
            have cf7 := fun o => (hx3.alloc o).fz 7
            have HX := hide' hx3
            have hB3 := (hB2.trans (below_drewn 1)).trans (hb3.mono (hB2.trans (below_drewn 1)).size)
            clear hx3 kA
            go_wp2
            have hx9 := (HX.out.alloc (.cells #[.int .i64 Hk, .string Hl, .string Hr, .string Hn, .string Hc, .int .i64 Hs, .bool Hdd, .bool Hh] 36)).set (k' := 3) (l' := ⟨#[]⟩) (r' := Hr) (n' := Hl) (c' := ⟨#[]⟩) (s' := Hs) (d' := false) (h' := false)
            have e0 := hx9.c0
            have e1 := hx9.c1
            have e2 := hx9.c2
            have e3 := hx9.c3
            have e4 := hx9.c4
            have e5 := hx9.c5
            have e6 := hx9.c6
            have e7 := hx9.c7
            refine bodyPost_ret (by simp [results, Tryz.results55, go_sem, e0, e1, e2, e3, e4, e5, e6, e7]; rfl) rfl ?_
            exact ⟨rfl, put8_below (hB3.alloc hB3.size _) (Nat.le_refl _) _ _ _ _ _ _ _ _⟩
          · go_simp
            (first | refine ⟨fun _ => tr_c _, ?_⟩ | refine ⟨tr_c _, ?_⟩)
            refine wpAnyX_one (i := 9) (by kernel_rfl) (wpOp_wanted rfl (by rfl) ?_)
            go_simp
            refine (kA _).mono ?_
            rintro e w3 ⟨rfl, hb3⟩
            (first | refine ⟨fun _ => tr_c _, ?_⟩ | refine ⟨tr_c _, ?_⟩)
            have hlt := hx2.lt
            have hx3 : Bx8 w3 w.heap.size 0 ⟨#[]⟩ ⟨#[]⟩ ⟨#[]⟩ ⟨#[]⟩ 0 false false := (hb3.block _ (by simp; omega)).trans (hx2.alloc (.cells #[.int .i64 0, .string ⟨#[]⟩, .string ⟨#[]⟩, .string ⟨#[]⟩, .string ⟨#[]⟩, .int .i64 0, .bool false, .bool false] 36))
            have hy3 : Bx8 w3 w2.heap.size 0 ⟨#[]⟩ ⟨#[]⟩ ⟨#[]⟩ ⟨#[]⟩ 0 false false := (hb3.block _ (by simp)).trans (bx8_new w2)
            have hB3 : Below w.heap.size w w3 := by
              have h9 := hB2.alloc hB2.size (.cells #[.int .i64 0, .string ⟨#[]⟩, .string ⟨#[]⟩, .string ⟨#[]⟩, .string ⟨#[]⟩, .int .i64 0, .bool false, .bool false] 36)
              exact ⟨hb3.os.trans h9.os, hb3.tape.trans h9.tape, hb3.output.trans h9.output, Nat.le_trans h9.size hb3.size, fun k hk => (hb3.block k (by have := hB2.size; simp; omega)).trans (h9.block k hk)⟩
            generalize hA : w2.heap.size = A at hy3 hlt
            have HA := hide' hA
            clear hA hb3
            have cc0 := hx3.c0
            have cf0 := hx3.fz 0
            have cc1 := hx3.c1
            have cf1 := hx3.fz 1
            have cc2 := hx3.c2
            have cf2 := hx3.fz 2
            have cc3 := hx3.c3
            have cf3 := hx3.fz 3
            have cc4 := hx3.c4
            have cf4 := hx3.fz 4
            have cc5 := hx3.c5
            have cf5 := hx3.fz 5
            have cc6 := hx3.c6
            have cf6 := hx3.fz 6
            have cc7 := hx3.c7
            have cf7 := hx3.fz 7
            have yc0 := hy3.c0
            have yf0 := hy3.fz 0
            have yc1 := hy3.c1
            have yf1 := hy3.fz 1
            have yc2 := hy3.c2
            have yf2 := hy3.fz 2
            have yc3 := hy3.c3
            have yf3 := hy3.fz 3
            have yc4 := hy3.c4
            have yf4 := hy3.fz 4
            have yc5 := hy3.c5
            have yf5 := hy3.fz 5
            have yc6 := hy3.c6
            have yf6 := hy3.fz 6
            have yc7 := hy3.c7
            have yf7 := hy3.fz 7
            have HX := hide' hx3
            have HY := hide' hy3
            clear hx3 hy3 kA
            refine wpAnyX_one (i := 11) (by kernel_rfl) (wpOp_wanted rfl (by rfl) ?_)
            go_simp
            (first | refine ⟨fun _ => tr_c _, ?_⟩ | refine ⟨tr_c _, ?_⟩)
            refine wpAnyX_done (by kernel_rfl) ?_ _
            go_wp2
            have hne : w.heap.size ≠ A := by omega
            have hx9 := (HX.out.put hne Hk Hl Hr Hn Hc Hs Hdd Hh).set (k' := 3) (l' := ⟨#[]⟩) (r' := Hr) (n' := Hl) (c' := ⟨#[]⟩) (s' := Hs) (d' := false) (h' := false)
            have e0 := hx9.c0
            have e1 := hx9.c1
            have e2 := hx9.c2
            have e3 := hx9.c3
            have e4 := hx9.c4
            have e5 := hx9.c5
            have e6 := hx9.c6
            have e7 := hx9.c7
            refine bodyPost_ret (by simp [results, Tryz.results55, go_sem, e0, e1, e2, e3, e4, e5, e6, e7]; rfl) rfl ?_
            exact ⟨rfl, put8_below (put8_below hB3 (Nat.le_of_lt hlt) _ _ _ _ _ _ _ _) (Nat.le_refl _) _ _ _ _ _ _ _ _⟩
        | false =>
          have h6 := h61 rfl
          have d3 : ((b[q].toNat : Int) != 61) = false := by rw [h6]; rfl
          clear h61
          go_enter Tryz.func55, Tryz.ntmps55
          go_upto_region 1 with fail
          rw [HW.out]
          go_upto_region 7 with (first | (go_at_call 31; refine (kS _).mono ?_; rintro e w1 ⟨rfl, hb1⟩) | (go_at_call 32; (try rw [hE]); refine (kP _).mono ?_; rintro e w2 ⟨rfl, rfl⟩))
          have hx2 := hx.below hb1
          have hB2 := hB.trans (hb1.mono hB.size)
          clear hx hB hb1
          have sT := sl_to b q (by omega)
          have sF := sl_from b (q + sz) (by omega)
          have sF2 := sF
          rw [← eadd] at sF
          have hwr : IntKind.i64.wrap ((q : Int) + (sz : Int)) = (q : Int) + (sz : Int) := i64_id _ ⟨by omega, by omega⟩
          have hle1 : (q : Int) + (sz : Int) ≤ 100000 := by omega
          clear eadd kS kP hE d1 d2 go hsl hb
          refine wp_region_classX [] (C := TrC) (by kernel_rfl) ?_
          (refine wpAnyX_take (i := 0) (v := ?_) (tr_c _) rfl (by kernel_rfl) (by kernel_rfl) (by kernel_rfl) (by kernel_rfl) (fun _ _ _ h => h) (Or.inl ⟨by kernel_rfl, ?_⟩) ?_; rotate_left; (intro w hc; clear hc; go_simp; try with_reducible rfl))
          (refine wpAnyX_take (i := 1) (v := ?_) (tr_c _) rfl (by kernel_rfl) (by kernel_rfl) (by kernel_rfl) (by kernel_rfl) (fun _ _ _ h => h) (Or.inl ⟨by kernel_rfl, ?_⟩) ?_; rotate_left; (intro w hc; clear hc; go_simp; try with_reducible rfl))
          (refine wpAnyX_take (i := 2) (v := ?_) (tr_c _) rfl (by kernel_rfl) (by kernel_rfl) (by kernel_rfl) (by kernel_rfl) (fun _ _ _ h => h) (Or.inl ⟨by kernel_rfl, ?_⟩) ?_; rotate_left; (intro w hc; clear hc; go_simp; try with_reducible rfl))
          go_simp
          (refine wpAnyX_take (i := 3) (v := ?_) (tr_c _) rfl (by kernel_rfl) (by kernel_rfl) (by kernel_rfl) (by kernel_rfl) (fun _ _ _ h => h) (Or.inl ⟨by kernel_rfl, ?_⟩) ?_; rotate_left; (intro w hc; clear hc; go_simp; try with_reducible rfl))
          (refine wpAnyX_take (i := 4) (v := ?_) (tr_c _) rfl (by kernel_rfl) (by kernel_rfl) (by kernel_rfl) (by kernel_rfl) (fun _ _ _ h => h) (Or.inl ⟨by kernel_rfl, ?_⟩) ?_; rotate_left; (intro w hc; clear hc; go_simp; try with_reducible rfl))
          go_simp
          (refine wpAnyX_take (i := 5) (v := ?_) (tr_c _) rfl (by kernel_rfl) (by kernel_rfl) (by kernel_rfl) (by kernel_rfl) (fun _ _ _ h => h) (Or.inl ⟨by kernel_rfl, ?_⟩) ?_; rotate_left; (intro w hc; clear hc; go_simp; try with_reducible rfl))
          (refine wpAnyX_take (i := 6) (v := ?_) (tr_c _) rfl (by kernel_rfl) (by kernel_rfl) (by kernel_rfl) (by kernel_rfl) (fun _ _ _ h => h) (Or.inl ⟨by kernel_rfl, ?_⟩) ?_; rotate_left; (intro w hc; clear hc; go_simp; try with_reducible rfl))
          go_simp
          (refine wpAnyX_take (i := 7) (v := ?_) (tr_c _) rfl (by kernel_rfl) (by kernel_rfl) (by kernel_rfl) (by kernel_rfl) (fun _ _ _ h => h) (Or.inl ⟨by kernel_rfl, ?_⟩) ?_; rotate_left; (intro w hc; clear hc; go_simp; try with_reducible rfl))
          go_simp
          (refine wpAnyX_take (i := 8) (v := ?_) (tr_c _) rfl (by kernel_rfl) (by kernel_rfl) (by kernel_rfl) (by kernel_rfl) (fun _ _ _ h => h) (Or.inl ⟨by kernel_rfl, ?_⟩) ?_; rotate_left; (intro w hc; clear hc; go_simp; try with_reducible rfl))
          go_simp
          refine wpAnyX_two (i := 9) (j := 10) (by kernel_rfl) (wpOp_wanted rfl (by rfl) ?_) (wpOp_wanted rfl (by rfl) ?_)
          · go_simp
            refine (kA _).mono ?_
            rintro e w3 ⟨rfl, hb3⟩
            (first | refine ⟨fun _ => tr_c _, ?_⟩ | refine ⟨tr_c _, ?_⟩)
            refine wpAnyX_one (i := 10) (by kernel_rfl) (wpOp_wanted rfl (by rfl) ?_)
            go_simp
            (first | refine ⟨fun _ => tr_c _, ?_⟩ | refine ⟨tr_c _, ?_⟩)
            refine wpAnyX_one (i := 11) (by kernel_rfl) (wpOp_wanted rfl (by rfl) ?_)
            go_simp
            (first | refine ⟨fun _ => tr_c _, ?_⟩ | refine ⟨tr_c _, ?_⟩)
            refine wpAnyX_done (by kernel_rfl) ?_ _
            have hx3 := hx2.drew.below hb3
            have cc0 := fun o => (hx3.alloc o).c0
            have cf0 := fun o => (hx3.alloc o).fz 0
            have cc1 := fun o => (hx3.alloc o).c1
            have cf1 := fun o => (hx3.alloc o).fz 1
            have cc2 := fun o => (hx3.alloc o).c2
            have cf2 := fun o => (hx3.alloc o).fz 2
            have cc3 := fun o => (hx3.alloc o).c3
            have cf3 := fun o => (hx3.alloc o).fz 3
            have cc4 := fun o => (hx3.alloc o).c4
            have cf4 := fun o => (hx3.alloc o).fz 4
            have cc5 := fun o => (hx3.alloc o).c5
            have cf5 := fun o => (hx3.alloc o).fz 5
            have cc6 := fun o => (hx3.alloc o).c6
            have cf6 := fun o => (hx3.alloc o).fz 6
            have cc7 := fun o => (hx3.alloc o).c7
            have cf7 := fun o => (hx3.alloc o).fz 7
            have HX := hide' hx3
            have hB3 := (hB2.trans (below_drewn 1)).trans (hb3.mono (hB2.trans (below_drewn 1)).size)
            clear hx3 kA
            go_wp2
            have hx9 := (HX.out.alloc (.cells #[.int .i64 Hk, .string Hl, .string Hr, .string Hn, .string Hc, .int .i64 Hs, .bool Hdd, .bool Hh] 36)).set (k' := 3) (l' := ⟨#[]⟩) (r' := Hr) (n' := Hl) (c' := ⟨#[]⟩) (s' := Hs) (d' := false) (h' := false)
            have e0 := hx9.c0
            have e1 := hx9.c1
            have e2 := hx9.c2
            have e3 := hx9.c3
            have e4 := hx9.c4
            have e5 := hx9.c5
            have e6 := hx9.c6
            have e7 := hx9.c7
            refine bodyPost_ret (by simp [results, Tryz.results55, go_sem, e0, e1, e2, e3, e4, e5, e6, e7]; rfl) rfl ?_
            exact ⟨rfl, put8_below (hB3.alloc hB3.size _) (Nat.le_refl _) _ _ _ _ _ _ _ _⟩
          · go_simp
            (first | refine ⟨fun _ => tr_c _, ?_⟩ | refine ⟨tr_c _, ?_⟩)
            refine wpAnyX_one (i := 9) (by kernel_rfl) (wpOp_wanted rfl (by rfl) ?_)
            go_simp
            refine (kA _).mono ?_
            rintro e w3 ⟨rfl, hb3⟩
            (first | refine ⟨fun _ => tr_c _, ?_⟩ | refine ⟨tr_c _, ?_⟩)
            have hlt := hx2.lt
            have hx3 : Bx8 w3 w.heap.size 0 ⟨#[]⟩ ⟨#[]⟩ ⟨#[]⟩ ⟨#[]⟩ 0 false false := (hb3.block _ (by simp; omega)).trans (hx2.alloc (.cells #[.int .i64 0, .string ⟨#[]⟩, .string ⟨#[]⟩, .string ⟨#[]⟩, .string ⟨#[]⟩, .int .i64 0, .bool false, .bool false] 36))
            have hy3 : Bx8 w3 w2.heap.size 0 ⟨#[]⟩ ⟨#[]⟩ ⟨#[]⟩ ⟨#[]⟩ 0 false false := (hb3.block _ (by simp)).trans (bx8_new w2)
            have hB3 : Below w.heap.size w w3 := by
              have h9 := hB2.alloc hB2.size (.cells #[.int .i64 0, .string ⟨#[]⟩, .string ⟨#[]⟩, .string ⟨#[]⟩, .string ⟨#[]⟩, .int .i64 0, .bool false, .bool false] 36)
              exact ⟨hb3.os.trans h9.os, hb3.tape.trans h9.tape, hb3.output.trans h9.output, Nat.le_trans h9.size hb3.size, fun k hk => (hb3.block k (by have := hB2.size; simp; omega)).trans (h9.block k hk)⟩
            generalize hA : w2.heap.size = A at hy3 hlt
            have HA := hide' hA
            clear hA hb3
            have cc0 := hx3.c0
            have cf0 := hx3.fz 0
            have cc1 := hx3.c1
            have cf1 := hx3.fz 1
            have cc2 := hx3.c2
            have cf2 := hx3.fz 2
            have cc3 := hx3.c3
            have cf3 := hx3.fz 3
            have cc4 := hx3.c4
            have cf4 := hx3.fz 4
            have cc5 := hx3.c5
            have cf5 := hx3.fz 5
            have cc6 := hx3.c6
            have cf6 := hx3.fz 6
            have cc7 := hx3.c7
            have cf7 := hx3.fz 7
            have yc0 := hy3.c0
            have yf0 := hy3.fz 0
            have yc1 := hy3.c1
            have yf1 := hy3.fz 1
            have yc2 := hy3.c2
            have yf2 := hy3.fz 2
            have yc3 := hy3.c3
            have yf3 := hy3.fz 3
            have yc4 := hy3.c4
            have yf4 := hy3.fz 4
            have yc5 := hy3.c5
            have yf5 := hy3.fz 5
            have yc6 := hy3.c6
            have yf6 := hy3.fz 6
            have yc7 := hy3.c7
            have yf7 := hy3.fz 7
            have HX := hide' hx3
            have HY := hide' hy3
            clear hx3 hy3 kA
            refine wpAnyX_one (i := 11) (by kernel_rfl) (wpOp_wanted rfl (by rfl) ?_)
            go_simp
            (first | refine ⟨fun _ => tr_c _, ?_⟩ | refine ⟨tr_c _, ?_⟩)
            refine wpAnyX_done (by kernel_rfl) ?_ _
            go_wp2
            have hne : w.heap.size ≠ A := by omega
            have hx9 := (HX.out.put hne Hk Hl Hr Hn Hc Hs Hdd Hh).set (k' := 3) (l' := ⟨#[]⟩) (r' := Hr) (n' := Hl) (c' := ⟨#[]⟩) (s' := Hs) (d' := false) (h' := false)
            have e0 := hx9.c0
            have e1 := hx9.c1
            have e2 := hx9.c2
            have e3 := hx9.c3
            have e4 := hx9.c4
            have e5 := hx9.c5
            have e6 := hx9.c6
            have e7 := hx9.c7
            refine bodyPost_ret (by simp [results, Tryz.results55, go_sem, e0, e1, e2, e3, e4, e5, e6, e7]; rfl) rfl ?_
            exact ⟨rfl, put8_below (put8_below hB3 (Nat.le_of_lt hlt) _ _ _ _ _ _ _ _) (Nat.le_refl _) _ _ _ _ _ _ _ _⟩
end Go.Proofs.YthkjinhnnilalaaGreatDoor
