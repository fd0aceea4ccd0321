/- The contract of the reference's Write onto a file that is there. The contract of the reference's Write onto a file that is there. The contracts of the reference's Write and Touch. -/
import Derived.Test.YtpbfhbnkalambaaGreatDoorZz
namespace Go.Proofs.YtpbfhbnkalambaaGreatDoor
open Go.RowKit Go.Maps

/-- the class of worlds where a node's time is set -/
structure TmC (R : Nat) (v : Value) (clk : Int) (w : World) : Prop where
  c0 : w.cell? ⟨R, 0, none⟩ = some v
  c1 : w.cell? ⟨R, 1, none⟩ = some (.int .i64 clk)
set_option maxRecDepth 100000 in
set_option maxHeartbeats 4000000 in
theorem rwrite_is_false (S : Nat → Prop) (R : Nat) (v : Value) (ns : List Nv) (clk rm : Int) (P : ByteArray) (bv : Value) (bs : Bs) (w : World) (h : RGd w S R v ns clk rm) (hP : P.size ≤ 300000) (hb : Rds w bv bs) (hbl : bs.length ≤ 1000000) (x : Nd) (hk : lookN (ns.map toE) (clean (tl P)) = .is x) (hdir : x.dir = false) :
    Calls Tryz.prog 41 #[.pointer (some ⟨R, 0, none⟩), .string P, bv, .bool false] w fun r w' => RfOut S R rm w r w' (if 65536 < (bs).length then (2, ns.map toE, clk) else putR (ns.map toE) clk rm (clean (tl P)) ⟨false, 0, bs⟩) := by
  obtain ⟨va, vc, hv⟩ := h.at_.row.len
  subst hv
  obtain ⟨ba, bc, hbv⟩ := hb.len
  have q := rlook_any R _ ns clk rm P w h.at_.rb h.at_.nodes h.gd.srt h.len hP
  generalize clean (tl P) = c at q hk ⊢
  have hnn := lookN_is hk
  rw [putR_old h.gd.srt hnn.2.1 (by rw [List.length_map]; exact h.len)]
  generalize hst : (if 65536 < (bs).length then ((2, ns.map toE, clk) : Out) else _) = st
  have HST := hide' hst
  have H := hide' h
  have HBS := hide' hb
  clear h hb hst
  generalize hbln : bs.length = bl at hbv
  have HBL := hide' hbln
  subst hbv
  go_enter Tryz.func41, Tryz.ntmps41
  go_wp2_with fail
  refine q.mono ?_
  rintro e w1 ⟨hb1, k, er, rfl, hm⟩
  clear q
  rw [hk] at hm
  obtain ⟨rfl, i, n, rfl, hi, hp, rfl⟩ := hm
  have HB1 := hide' hb1
  have HBS1 := hide' (HBS.out.below hb1)
  have HIS := hide' (And.intro hi (And.intro hp hnn.2.1))
  have hil := (List.getElem?_eq_some_iff.1 hi).1
  have hmem := List.mem_of_getElem? hi
  have hR1 := (H.out.below HB1.out).at_
  have c0 := hR1.rb.cells
  obtain ⟨g, rfl⟩ : ∃ g, va = some ⟨g, 0, none⟩ := by
    rcases hR1.row with ⟨_, e0⟩ | ⟨g, cap, cur, e, _⟩
    · rw [e0] at hi; simp at hi
    · cases e; exact ⟨g, rfl⟩
  obtain ⟨c1, c3⟩ : w1.cell? ⟨g, i * 4 + 1, none⟩ = some (.bool n.nd.dir) ∧ w1.cell? ⟨g, i * 4 + 3, none⟩ = some n.dv := by
    rcases hR1.row with ⟨e0, _⟩ | ⟨g', cap, cur, e, hg, h1, h2, h4⟩
    · cases e0
    · cases e
      exact ⟨cell_row (r := 1) hg h4 hi (by omega) rfl, cell_row (r := 3) hg h4 hi (by omega) rfl⟩
  have hrd := (hR1.dat n hmem).rds
  obtain ⟨da, dc, hdv⟩ := hrd.len
  have hdl65 := H.out.data n hmem
  rw [hdir] at c1
  rw [hdv] at c3 hrd
  generalize hdl : n.nd.data.length = dl at *
  have HDL := hide' hdl
  have HRD := hide' hrd
  have ki : (i : Int) < ns.length := by omega
  have ki3 : ((i : Int) == -2) = false := beq_eq_false_iff_ne.2 (by omega)
  have ki4 : ¬ (i : Int) = -2 := by omega
  have ki5 : (0 : Int) ≤ (i : Int) := by omega
  have ki6 : ¬ (i : Int) < 0 := by omega
  have ki7 : decide ((i : Int) < 0) = false := decide_eq_false ki6
  have HDIR := hide' hdir
  clear hb1 hk hi hp hnn hrd hdir hR1 hmem hdl
  dsimp only
  rw [hbln] at hbl
  clear hbln
  go_upto_region 15 with (at_builtin; refine wpList_plain rfl fun _ hK => ?_; refine wp_append_own2 (v := .slice none 0 0) (xs := []) _ _ _ rfl rfl rfl (Dat.nil _) HBS1.out (by have := HBL.out; simp only [List.length_nil]; omega) ?_; intro v3 w3 hd3 _ hg3 hat3; refine hK _ _ ?_)
  rw [List.nil_append] at hd3
  have hB3 : Below w1.heap.size w1 w3 := ⟨hg3.os, hg3.tape, hg3.output, hg3.size, fun k hk => hg3.block k hk fun e => by cases e⟩
  have hown : ∀ g, v3.ownBlock = some g → w1.heap.size ≤ g := fun g hg => by
    rcases hat3 with h9 | h9
    · rw [h9] at hg
      cases hg
    · rw [h9] at hg
      cases hg
      exact Nat.le_refl _
  clear hg3 hat3
  obtain ⟨v3a, v3c, hv3⟩ := hd3.len
  have hL : bs.length = bl := HBL.out
  generalize hD : bs = D at *
  generalize hll : bl = L at *
  rw [hL] at hv3
  have hLm : L ≤ 1065536 := by omega
  have HDx := hide' hL
  subst hv3
  have HBw : Hid (Below w.heap.size w w3) := hide' (HB1.out.trans (hB3.mono HB1.out.size))
  have HD3 := hide' hd3
  have HOW := hide' hown
  have hdl9 : dl ≤ 65536 := hdl65
  clear hd3 hB3 hown hL hD hll HBL HBS1 HBS HRD c0 c1 c3
  by_cases hlong : 65536 < L
  · have HS1 : Hid (st = (2, ns.map toE, clk)) := by show _ = _; rw [← HST.out, HDx.out]; exact if_pos hlong
    have g0 : (65536 : Int) < L := by omega
    go_wp2_with fail
    refine bodyPost_ret (v := .int .i64 2) (by simp [results, Tryz.results41, go_sem]) rfl ?_
    rw [HS1.out]
    exact rf_same H.out HBw.out 2
  · have g0 : ¬ (65536 : Int) < L := by omega
    have hs0 : st = if (weight (ns.map toE) : Int) + ((L : Int) - dl) ≤ rm then (0, put (ns.map toE) c ⟨false, clk + 1, D⟩, clk + 1) else (15, ns.map toE, clk) := by
      rw [← HST.out, HDx.out, if_neg hlong]
      try simp only [HDL.out, HDx.out]
    have hR2 := (H.out.below HBw.out)
    have c0 := hR2.at_.rb.cells
    have c1 : w3.cell? ⟨R, 1, none⟩ = some (.int .i64 clk) := by have := hR2.at_.rb; unfold Rb at this; rw [Lib.cell_of_heap this]; rfl
    have c2 : w3.cell? ⟨R, 2, none⟩ = some (.int .i64 rm) := by have := hR2.at_.rb; unfold Rb at this; rw [Lib.cell_of_heap this]; rfl
    have qw := fun n => rweight_any (.slice (some ⟨g, 0, none⟩) ns.length vc) ns (w3.drewN n) (hR2.at_.nodes.below (below_drewn n)) H.out.len H.out.data
    have hwl := H.out.wt
    have hrm1 := H.out.rm1
    have hln := H.out.len
    generalize hwt : weight (ns.map toE) = wt at *
    have hw1 : (wt : Int) ≤ 1048576 := by omega
    have HS0 := hide' hs0
    have HR2 := hide' hR2
    clear HST hs0 hwt hR2 hwl
    have e0 : IntKind.i64.wrap ((L : Int) - (dl : Int)) = (L : Int) - dl := i64_id _ (by omega)
    have e1 : IntKind.i64.wrap ((wt : Int) + ((L : Int) - dl)) = (wt : Int) + ((L : Int) - dl) := i64_id _ (by omega)
    by_cases hroom : rm < (wt : Int) + ((L : Int) - dl)
    · have g3 : decide (rm < (wt : Int) + ((L : Int) - dl)) = true := decide_eq_true hroom
      have HS1 : Hid (st = (15, ns.map toE, clk)) := by show _ = _; rw [HS0.out]; exact if_neg fun hh => by omega
      go_upto_region 20 with fail
      go_quiet ((go_at_call 34; exact Calls.quiet_of_same (qw _)))
      go_wp2_with fail
      refine bodyPost_ret (v := .int .i64 15) (by simp [results, Tryz.results41, go_sem]) rfl ?_
      rw [HS1.out]
      exact rf_same H.out (HBw.out.trans (below_drewn _)) 15
    · have g3 : decide (rm < (wt : Int) + ((L : Int) - dl)) = false := decide_eq_false hroom
      have HS1 : Hid (st = (0, put (ns.map toE) c ⟨false, clk + 1, D⟩, clk + 1)) := by show _ = _; rw [HS0.out]; exact if_pos (by omega)
      have hR1 := HR2.out.at_
      have f1 : w3.frozen? ⟨R, 1, none⟩ = false := Lib.frozen_of_heap hR1.rb 1
      have hck0 := H.out.c0
      have hck1 := H.out.c1
      have hwr : IntKind.i64.wrap (clk + 1) = clk + 1 := i64_id _ (by omega)
      go_upto_region 20 with fail
      go_quiet ((go_at_call 34; exact Calls.quiet_of_same (qw _)))
      go_upto_region 25 with fail
      generalize hW2 : World.setCell _ _ _ = W2
      have hR1' : RfAt w3 (fun i => S i ∨ w.heap.size ≤ i) R (.slice (some ⟨g, 0, none⟩) ns.length vc) ns clk rm := hR1.mono fun _ hi => .inl hi
      have hR2 : RfAt W2 (fun i => S i ∨ w.heap.size ≤ i) R (.slice (some ⟨g, 0, none⟩) ns.length vc) ns (clk + 1) rm := by rw [← hW2]; exact ((hR1'.below (below_drewn _)).clock _).1
      have hT2 : Turn (fun i => S i ∨ w.heap.size ≤ i) w3 W2 := by rw [← hW2]; exact (Turn.of_below (below_drewn _)).trans' ((hR1'.below (below_drewn _)).clock _).2
      have hd3 : Dat W2 (.slice v3a L v3c) D := by
        rw [← hW2]
        exact HD3.out.kept fun g hg => Below.heap_setCell _ ⟨R, 1, none⟩ _ g (dat_ne_rb HD3.out hR1.rb g hg)
      have hown3 : ∀ b, (Value.slice v3a L v3c).ownBlock = some b → S b ∨ w.heap.size ≤ b := fun b hb => .inr (Nat.le_trans HB1.out.size (HOW.out b hb))
      obtain ⟨b0, b3, bf2, bf3⟩ : W2.cell? ⟨R, 0, none⟩ = some (.slice (some ⟨g, 0, none⟩) ns.length vc) ∧ (∃ z, W2.cell? ⟨g, i * 4 + 3, none⟩ = some z) ∧ W2.frozen? ⟨g, i * 4 + 2, none⟩ = false ∧ W2.frozen? ⟨g, i * 4 + 3, none⟩ = false := by
        refine ⟨hR2.rb.cells, ?_⟩
        rcases hR2.row with ⟨e0, _⟩ | ⟨g', cap, cur, e, hg, h1, h2, h4⟩
        · cases e0
        · cases e
          exact ⟨⟨_, cell_row (r := 3) hg h4 HIS.out.1 (by omega) rfl⟩, Lib.frozen_of_heap hg _, Lib.frozen_of_heap hg _⟩
      obtain ⟨z3, b3⟩ := b3
      have HT2 := hide' ((Turn.of_below (S := fun i => S i ∨ w.heap.size ≤ i) HBw.out).trans' hT2)
      have HR3 := hide' (hR2.bytes HIS.out.1 hd3 hown3)
      clear hR2 hT2 hW2 c0 c1 c2 f1 qw hwr hd3 hown3 hR1 hR1' e0 e1
      go_upto_region 26 with fail
      generalize hW3 : World.setCell _ _ _ = W3
      rw [hW3] at HR3
      clear b0 b3 bf2 bf3 hW3
      have hR3 := HR3.out.1
      have hn3 : (ns.set i ⟨n.path, .slice v3a L v3c, ⟨n.nd.dir, n.nd.time, D⟩⟩)[i]? = some ⟨n.path, .slice v3a L v3c, ⟨n.nd.dir, n.nd.time, D⟩⟩ := by rw [List.getElem?_set_self hil]
      have el : (ns.set i ⟨n.path, .slice v3a L v3c, ⟨n.nd.dir, n.nd.time, D⟩⟩).length = ns.length := List.length_set
      have hCT : TmC R (.slice (some ⟨g, 0, none⟩) ns.length vc) (clk + 1) W3 := ⟨hR3.rb.cells, by have := hR3.rb; unfold Rb at this; rw [Lib.cell_of_heap this]; rfl⟩
      rw [← el] at hR3
      obtain ⟨b2, bf2⟩ : (∃ z, W3.cell? ⟨g, i * 4 + 2, none⟩ = some z) ∧ W3.frozen? ⟨g, i * 4 + 2, none⟩ = false := by
        rcases hR3.row with ⟨e0, _⟩ | ⟨g', cap, cur, e, hg, h1, h2, h4⟩
        · cases e0
        · cases e
          exact ⟨⟨_, cell_row (r := 2) hg h4 hn3 (by omega) rfl⟩, Lib.frozen_of_heap hg _⟩
      obtain ⟨z2, b2⟩ := b2
      have HFIN := hide' (hR3.time hn3 (clk + 1))
      obtain ⟨W4, hW4⟩ : ∃ W4, W4 = W3.drew := ⟨_, rfl⟩
      have HCT : Hid (TmC R (.slice (some ⟨g, 0, none⟩) ns.length vc) (clk + 1) W4) := by rw [hW4]; exact hide' ⟨hCT.c0, hCT.c1⟩
      have b2' : W4.cell? ⟨g, i * 4 + 2, none⟩ = some z2 := by rw [hW4]; exact b2
      have bf2' : W4.frozen? ⟨g, i * 4 + 2, none⟩ = false := by rw [hW4]; exact bf2
      have HW4 := hide' hW4
      clear hR3 hCT b2 bf2
      refine wp_region_classX [11] (C := TmC R (.slice (some ⟨g, 0, none⟩) ns.length vc) (clk + 1)) (by kernel_rfl) ?_
      rw [← hW4]
      clear hW4
      (refine wpAnyX_take (i := 0) (v := ?_) HCT.out rfl (by kernel_rfl) (by kernel_rfl) (by kernel_rfl) (by kernel_rfl) (fun _ _ _ h => h) (Or.inl ⟨by kernel_rfl, ?_⟩) ?_; rotate_left; (intro w hc; have k0 := hc.c0; have k1 := hc.c1; clear hc; go_simp; try with_reducible rfl))
      (refine wpAnyX_take (i := 1) (v := ?_) HCT.out rfl (by kernel_rfl) (by kernel_rfl) (by kernel_rfl) (by kernel_rfl) (fun _ _ _ h => h) (Or.inl ⟨by kernel_rfl, ?_⟩) ?_; rotate_left; (intro w hc; have k0 := hc.c0; have k1 := hc.c1; clear hc; go_simp; try with_reducible rfl))
      (refine wpAnyX_take (i := 2) (v := ?_) HCT.out rfl (by kernel_rfl) (by kernel_rfl) (by kernel_rfl) (by kernel_rfl) (fun _ _ _ h => h) (Or.inl ⟨by kernel_rfl, ?_⟩) ?_; rotate_left; (intro w hc; have k0 := hc.c0; have k1 := hc.c1; clear hc; go_simp; try with_reducible rfl))
      (refine wpAnyX_take (i := 3) (v := ?_) HCT.out rfl (by kernel_rfl) (by kernel_rfl) (by kernel_rfl) (by kernel_rfl) (fun _ _ _ h => h) (Or.inl ⟨by kernel_rfl, ?_⟩) ?_; rotate_left; (intro w hc; have k0 := hc.c0; have k1 := hc.c1; clear hc; go_simp; try with_reducible rfl))
      (refine wpAnyX_take (i := 4) (v := ?_) HCT.out rfl (by kernel_rfl) (by kernel_rfl) (by kernel_rfl) (by kernel_rfl) (fun _ _ _ h => h) (Or.inl ⟨by kernel_rfl, ?_⟩) ?_; rotate_left; (intro w hc; have k0 := hc.c0; have k1 := hc.c1; clear hc; go_simp; try with_reducible rfl))
      go_simp
      (refine wpAnyX_take (i := 5) (v := ?_) HCT.out rfl (by kernel_rfl) (by kernel_rfl) (by kernel_rfl) (by kernel_rfl) (fun _ _ _ h => h) (Or.inl ⟨by kernel_rfl, ?_⟩) ?_; rotate_left; (intro w hc; have k0 := hc.c0; have k1 := hc.c1; clear hc; go_simp; try with_reducible rfl))
      (refine wpAnyX_take (i := 6) (v := ?_) HCT.out rfl (by kernel_rfl) (by kernel_rfl) (by kernel_rfl) (by kernel_rfl) (fun _ _ _ h => h) (Or.inl ⟨by kernel_rfl, ?_⟩) ?_; rotate_left; (intro w hc; have k0 := hc.c0; have k1 := hc.c1; clear hc; go_simp; try with_reducible rfl))
      (refine wpAnyX_take (i := 7) (v := ?_) HCT.out rfl (by kernel_rfl) (by kernel_rfl) (by kernel_rfl) (by kernel_rfl) (fun _ _ _ h => h) (Or.inl ⟨by kernel_rfl, ?_⟩) ?_; rotate_left; (intro w hc; have k0 := hc.c0; have k1 := hc.c1; clear hc; go_simp; try with_reducible rfl))
      (refine wpAnyX_take (i := 8) (v := ?_) HCT.out rfl (by kernel_rfl) (by kernel_rfl) (by kernel_rfl) (by kernel_rfl) (fun _ _ _ h => h) (Or.inl ⟨by kernel_rfl, ?_⟩) ?_; rotate_left; (intro w hc; have k0 := hc.c0; have k1 := hc.c1; clear hc; go_simp; try with_reducible rfl))
      go_simp
      refine wpAnyX_one (i := 9) (by kernel_rfl) (wpOp_wanted rfl (by rfl) ?_)
      have hct := HCT.out
      go_simp
      refine wpAnyX_one (i := 10) (by kernel_rfl) (wpOp_wanted rfl (by rfl) ?_)
      go_simp
      refine wpAnyX_one (i := 11) (by kernel_rfl) (wpOp_wanted rfl (by rfl) ?_)
      go_simp
      refine wpAnyX_done (by kernel_rfl) ?_ _
      generalize hW5 : World.setCell _ _ _ = W5
      have HE : Hid (RfOut S R rm w (.returned (.int .i64 0)) W5 st) := by
        show RfOut _ _ _ _ _ _ _
        rw [HS1.out]
        have hR4 : RfAt (W4.setCell ⟨g, i * 4 + 2, none⟩ (.int .i64 (clk + 1))) (fun i => S i ∨ w.heap.size ≤ i) R (.slice (some ⟨g, 0, none⟩) (ns.set i ⟨n.path, .slice v3a L v3c, ⟨n.nd.dir, n.nd.time, D⟩⟩).length vc) ((ns.set i ⟨n.path, .slice v3a L v3c, ⟨n.nd.dir, n.nd.time, D⟩⟩).set i ⟨n.path, .slice v3a L v3c, ⟨n.nd.dir, clk + 1, D⟩⟩) (clk + 1) rm := by
          rw [HW4.out]
          exact HFIN.out.1.apart fun _ _ => rfl
        have hT4 : Turn (fun i => S i ∨ w.heap.size ≤ i) W3 (W4.setCell ⟨g, i * 4 + 2, none⟩ (.int .i64 (clk + 1))) := by
          rw [HW4.out]
          exact ⟨HFIN.out.2.os, HFIN.out.2.tape, HFIN.out.2.output, HFIN.out.2.size, HFIN.out.2.block⟩
        rw [hW5] at hR4 hT4
        refine ⟨rfl, _, _, _, hR4, ?_, (Turn.refl S w).trans ((HT2.out.trans' HR3.out.2).trans' hT4) (fun i hi => hi), fun i hi => hi⟩
        have hT := HIS.out.1
        have hTk : (ns.map toE)[i]? = some (n.path, n.nd) := by rw [List.getElem?_map, hT]; rfl
        rw [List.set_set, map_set]
        have := put_set H.out.gd.srt hTk (⟨false, clk + 1, D⟩ : Nd)
        rw [HIS.out.2.1] at this
        rw [this]
        show (ns.map toE).set i (n.path, ⟨n.nd.dir, clk + 1, D⟩) = _
        rw [HDIR.out, HIS.out.2.1]
      clear hW5
      go_wp2_with fail
      refine bodyPost_ret (v := .int .i64 0) (by simp [results, Tryz.results41, go_sem]) rfl ?_
      exact HE.out
end Go.Proofs.YtpbfhbnkalambaaGreatDoor
namespace Go.Proofs.YtpbfhbnkalambaaGreatDoor
open Go.RowKit Go.Maps

set_option maxRecDepth 100000 in
set_option maxHeartbeats 4000000 in
theorem rwrite_is_true (S : Nat → Prop) (R : Nat) (v : Value) (ns : List Nv) (clk rm : Int) (P : ByteArray) (bv : Value) (bs : Bs) (w : World) (h : RGd w S R v ns clk rm) (hP : P.size ≤ 300000) (hb : Rds w bv bs) (hbl : bs.length ≤ 1000000) (x : Nd) (hk : lookN (ns.map toE) (clean (tl P)) = .is x) (hdir : x.dir = false) :
    Calls Tryz.prog 41 #[.pointer (some ⟨R, 0, none⟩), .string P, bv, .bool true] w fun r w' => RfOut S R rm w r w' (if 65536 < (x.data ++ bs).length then (2, ns.map toE, clk) else putR (ns.map toE) clk rm (clean (tl P)) ⟨false, 0, x.data ++ bs⟩) := by
  obtain ⟨va, vc, hv⟩ := h.at_.row.len
  subst hv
  obtain ⟨ba, bc, hbv⟩ := hb.len
  have q := rlook_any R _ ns clk rm P w h.at_.rb h.at_.nodes h.gd.srt h.len hP
  generalize clean (tl P) = c at q hk ⊢
  have hnn := lookN_is hk
  rw [putR_old h.gd.srt hnn.2.1 (by rw [List.length_map]; exact h.len)]
  generalize hst : (if 65536 < (x.data ++ bs).length then ((2, ns.map toE, clk) : Out) else _) = st
  have HST := hide' hst
  have H := hide' h
  have HBS := hide' hb
  clear h hb hst
  generalize hbln : bs.length = bl at hbv
  have HBL := hide' hbln
  subst hbv
  go_enter Tryz.func41, Tryz.ntmps41
  go_wp2_with fail
  refine q.mono ?_
  rintro e w1 ⟨hb1, k, er, rfl, hm⟩
  clear q
  rw [hk] at hm
  obtain ⟨rfl, i, n, rfl, hi, hp, rfl⟩ := hm
  have HB1 := hide' hb1
  have HBS1 := hide' (HBS.out.below hb1)
  have HIS := hide' (And.intro hi (And.intro hp hnn.2.1))
  have hil := (List.getElem?_eq_some_iff.1 hi).1
  have hmem := List.mem_of_getElem? hi
  have hR1 := (H.out.below HB1.out).at_
  have c0 := hR1.rb.cells
  obtain ⟨g, rfl⟩ : ∃ g, va = some ⟨g, 0, none⟩ := by
    rcases hR1.row with ⟨_, e0⟩ | ⟨g, cap, cur, e, _⟩
    · rw [e0] at hi; simp at hi
    · cases e; exact ⟨g, rfl⟩
  obtain ⟨c1, c3⟩ : w1.cell? ⟨g, i * 4 + 1, none⟩ = some (.bool n.nd.dir) ∧ w1.cell? ⟨g, i * 4 + 3, none⟩ = some n.dv := by
    rcases hR1.row with ⟨e0, _⟩ | ⟨g', cap, cur, e, hg, h1, h2, h4⟩
    · cases e0
    · cases e
      exact ⟨cell_row (r := 1) hg h4 hi (by omega) rfl, cell_row (r := 3) hg h4 hi (by omega) rfl⟩
  have hrd := (hR1.dat n hmem).rds
  obtain ⟨da, dc, hdv⟩ := hrd.len
  have hdl65 := H.out.data n hmem
  rw [hdir] at c1
  rw [hdv] at c3 hrd
  generalize hdl : n.nd.data.length = dl at *
  have HDL := hide' hdl
  have HRD := hide' hrd
  have ki : (i : Int) < ns.length := by omega
  have ki3 : ((i : Int) == -2) = false := beq_eq_false_iff_ne.2 (by omega)
  have ki4 : ¬ (i : Int) = -2 := by omega
  have ki5 : (0 : Int) ≤ (i : Int) := by omega
  have ki6 : ¬ (i : Int) < 0 := by omega
  have ki7 : decide ((i : Int) < 0) = false := decide_eq_false ki6
  have HDIR := hide' hdir
  clear hb1 hk hi hp hnn hrd hdir hR1 hmem hdl
  dsimp only
  rw [hbln] at hbl
  clear hbln
  go_upto_region 14 with (at_builtin; refine wpList_plain rfl fun _ hK => ?_; refine wp_append_own2 (v := .slice none 0 0) (xs := []) _ _ _ rfl rfl rfl (Dat.nil _) HRD.out (by have := HDL.out; simp only [List.length_nil]; omega) ?_; intro v2 w2 hd2 _ hg2 hat2; refine hK _ _ ?_)
  rw [List.nil_append] at hd2
  have hB2 : Below w1.heap.size w1 w2 := ⟨hg2.os, hg2.tape, hg2.output, hg2.size, fun k hk => hg2.block k hk fun e => by cases e⟩
  have hown2 : ∀ g, v2.ownBlock = some g → w1.heap.size ≤ g := fun g hg => by
    rcases hat2 with h9 | h9
    · rw [h9] at hg
      cases hg
    · rw [h9] at hg
      cases hg
      exact Nat.le_refl _
  have HD2 := hide' hd2
  have HBS2 := hide' (HBS1.out.below hB2)
  clear hg2 hat2 hd2
  go_upto_region 15 with (at_builtin; refine wpList_plain rfl fun _ hK => ?_; refine wp_append_own2 (v := v2) _ _ _ rfl rfl rfl HD2.out HBS2.out (by have := HDL.out; have := HBL.out; omega) ?_; intro v3 w3 hd3 _ hg3 hat3; refine hK _ _ ?_)
  have hB3 : Below w1.heap.size w1 w3 := hB2.trans ⟨hg3.os, hg3.tape, hg3.output, hg3.size, fun k hk => hg3.block k (Nat.lt_of_lt_of_le hk hB2.size) fun e => by have := hown2 k e.symm; omega⟩
  have hown : ∀ g, v3.ownBlock = some g → w1.heap.size ≤ g := fun g hg => by
    rcases hat3 with h9 | h9
    · rw [h9] at hg
      exact hown2 g hg
    · rw [h9] at hg
      cases hg
      exact hB2.size
  clear hown2 hB2 hg3 hat3 HD2 HBS2
  obtain ⟨v3a, v3c, hv3⟩ := hd3.len
  have hL : (n.nd.data ++ bs).length = dl + bl := by rw [List.length_append, HDL.out, HBL.out]
  generalize hD : n.nd.data ++ bs = D at *
  generalize hll : dl + bl = L at *
  rw [hL] at hv3
  have hLm : L ≤ 1065536 := by omega
  have HDx := hide' hL
  subst hv3
  have HBw : Hid (Below w.heap.size w w3) := hide' (HB1.out.trans (hB3.mono HB1.out.size))
  have HD3 := hide' hd3
  have HOW := hide' hown
  have hdl9 : dl ≤ 65536 := hdl65
  clear hd3 hB3 hown hL hD hll HBL HBS1 HBS HRD c0 c1 c3
  by_cases hlong : 65536 < L
  · have HS1 : Hid (st = (2, ns.map toE, clk)) := by show _ = _; rw [← HST.out, HDx.out]; exact if_pos hlong
    have g0 : (65536 : Int) < L := by omega
    go_wp2_with fail
    refine bodyPost_ret (v := .int .i64 2) (by simp [results, Tryz.results41, go_sem]) rfl ?_
    rw [HS1.out]
    exact rf_same H.out HBw.out 2
  · have g0 : ¬ (65536 : Int) < L := by omega
    have hs0 : st = if (weight (ns.map toE) : Int) + ((L : Int) - dl) ≤ rm then (0, put (ns.map toE) c ⟨false, clk + 1, D⟩, clk + 1) else (15, ns.map toE, clk) := by
      rw [← HST.out, HDx.out, if_neg hlong]
      try simp only [HDL.out, HDx.out]
    have hR2 := (H.out.below HBw.out)
    have c0 := hR2.at_.rb.cells
    have c1 : w3.cell? ⟨R, 1, none⟩ = some (.int .i64 clk) := by have := hR2.at_.rb; unfold Rb at this; rw [Lib.cell_of_heap this]; rfl
    have c2 : w3.cell? ⟨R, 2, none⟩ = some (.int .i64 rm) := by have := hR2.at_.rb; unfold Rb at this; rw [Lib.cell_of_heap this]; rfl
    have qw := fun n => rweight_any (.slice (some ⟨g, 0, none⟩) ns.length vc) ns (w3.drewN n) (hR2.at_.nodes.below (below_drewn n)) H.out.len H.out.data
    have hwl := H.out.wt
    have hrm1 := H.out.rm1
    have hln := H.out.len
    generalize hwt : weight (ns.map toE) = wt at *
    have hw1 : (wt : Int) ≤ 1048576 := by omega
    have HS0 := hide' hs0
    have HR2 := hide' hR2
    clear HST hs0 hwt hR2 hwl
    have e0 : IntKind.i64.wrap ((L : Int) - (dl : Int)) = (L : Int) - dl := i64_id _ (by omega)
    have e1 : IntKind.i64.wrap ((wt : Int) + ((L : Int) - dl)) = (wt : Int) + ((L : Int) - dl) := i64_id _ (by omega)
    by_cases hroom : rm < (wt : Int) + ((L : Int) - dl)
    · have g3 : decide (rm < (wt : Int) + ((L : Int) - dl)) = true := decide_eq_true hroom
      have HS1 : Hid (st = (15, ns.map toE, clk)) := by show _ = _; rw [HS0.out]; exact if_neg fun hh => by omega
      go_upto_region 20 with fail
      go_quiet ((go_at_call 34; exact Calls.quiet_of_same (qw _)))
      go_wp2_with fail
      refine bodyPost_ret (v := .int .i64 15) (by simp [results, Tryz.results41, go_sem]) rfl ?_
      rw [HS1.out]
      exact rf_same H.out (HBw.out.trans (below_drewn _)) 15
    · have g3 : decide (rm < (wt : Int) + ((L : Int) - dl)) = false := decide_eq_false hroom
      have HS1 : Hid (st = (0, put (ns.map toE) c ⟨false, clk + 1, D⟩, clk + 1)) := by show _ = _; rw [HS0.out]; exact if_pos (by omega)
      have hR1 := HR2.out.at_
      have f1 : w3.frozen? ⟨R, 1, none⟩ = false := Lib.frozen_of_heap hR1.rb 1
      have hck0 := H.out.c0
      have hck1 := H.out.c1
      have hwr : IntKind.i64.wrap (clk + 1) = clk + 1 := i64_id _ (by omega)
      go_upto_region 20 with fail
      go_quiet ((go_at_call 34; exact Calls.quiet_of_same (qw _)))
      go_upto_region 25 with fail
      generalize hW2 : World.setCell _ _ _ = W2
      have hR1' : RfAt w3 (fun i => S i ∨ w.heap.size ≤ i) R (.slice (some ⟨g, 0, none⟩) ns.length vc) ns clk rm := hR1.mono fun _ hi => .inl hi
      have hR2 : RfAt W2 (fun i => S i ∨ w.heap.size ≤ i) R (.slice (some ⟨g, 0, none⟩) ns.length vc) ns (clk + 1) rm := by rw [← hW2]; exact ((hR1'.below (below_drewn _)).clock _).1
      have hT2 : Turn (fun i => S i ∨ w.heap.size ≤ i) w3 W2 := by rw [← hW2]; exact (Turn.of_below (below_drewn _)).trans' ((hR1'.below (below_drewn _)).clock _).2
      have hd3 : Dat W2 (.slice v3a L v3c) D := by
        rw [← hW2]
        exact HD3.out.kept fun g hg => Below.heap_setCell _ ⟨R, 1, none⟩ _ g (dat_ne_rb HD3.out hR1.rb g hg)
      have hown3 : ∀ b, (Value.slice v3a L v3c).ownBlock = some b → S b ∨ w.heap.size ≤ b := fun b hb => .inr (Nat.le_trans HB1.out.size (HOW.out b hb))
      obtain ⟨b0, b3, bf2, bf3⟩ : W2.cell? ⟨R, 0, none⟩ = some (.slice (some ⟨g, 0, none⟩) ns.length vc) ∧ (∃ z, W2.cell? ⟨g, i * 4 + 3, none⟩ = some z) ∧ W2.frozen? ⟨g, i * 4 + 2, none⟩ = false ∧ W2.frozen? ⟨g, i * 4 + 3, none⟩ = false := by
        refine ⟨hR2.rb.cells, ?_⟩
        rcases hR2.row with ⟨e0, _⟩ | ⟨g', cap, cur, e, hg, h1, h2, h4⟩
        · cases e0
        · cases e
          exact ⟨⟨_, cell_row (r := 3) hg h4 HIS.out.1 (by omega) rfl⟩, Lib.frozen_of_heap hg _, Lib.frozen_of_heap hg _⟩
      obtain ⟨z3, b3⟩ := b3
      have HT2 := hide' ((Turn.of_below (S := fun i => S i ∨ w.heap.size ≤ i) HBw.out).trans' hT2)
      have HR3 := hide' (hR2.bytes HIS.out.1 hd3 hown3)
      clear hR2 hT2 hW2 c0 c1 c2 f1 qw hwr hd3 hown3 hR1 hR1' e0 e1
      go_upto_region 26 with fail
      generalize hW3 : World.setCell _ _ _ = W3
      rw [hW3] at HR3
      clear b0 b3 bf2 bf3 hW3
      have hR3 := HR3.out.1
      have hn3 : (ns.set i ⟨n.path, .slice v3a L v3c, ⟨n.nd.dir, n.nd.time, D⟩⟩)[i]? = some ⟨n.path, .slice v3a L v3c, ⟨n.nd.dir, n.nd.time, D⟩⟩ := by rw [List.getElem?_set_self hil]
      have el : (ns.set i ⟨n.path, .slice v3a L v3c, ⟨n.nd.dir, n.nd.time, D⟩⟩).length = ns.length := List.length_set
      have hCT : TmC R (.slice (some ⟨g, 0, none⟩) ns.length vc) (clk + 1) W3 := ⟨hR3.rb.cells, by have := hR3.rb; unfold Rb at this; rw [Lib.cell_of_heap this]; rfl⟩
      rw [← el] at hR3
      obtain ⟨b2, bf2⟩ : (∃ z, W3.cell? ⟨g, i * 4 + 2, none⟩ = some z) ∧ W3.frozen? ⟨g, i * 4 + 2, none⟩ = false := by
        rcases hR3.row with ⟨e0, _⟩ | ⟨g', cap, cur, e, hg, h1, h2, h4⟩
        · cases e0
        · cases e
          exact ⟨⟨_, cell_row (r := 2) hg h4 hn3 (by omega) rfl⟩, Lib.frozen_of_heap hg _⟩
      obtain ⟨z2, b2⟩ := b2
      have HFIN := hide' (hR3.time hn3 (clk + 1))
      obtain ⟨W4, hW4⟩ : ∃ W4, W4 = W3.drew := ⟨_, rfl⟩
      have HCT : Hid (TmC R (.slice (some ⟨g, 0, none⟩) ns.length vc) (clk + 1) W4) := by rw [hW4]; exact hide' ⟨hCT.c0, hCT.c1⟩
      have b2' : W4.cell? ⟨g, i * 4 + 2, none⟩ = some z2 := by rw [hW4]; exact b2
      have bf2' : W4.frozen? ⟨g, i * 4 + 2, none⟩ = false := by rw [hW4]; exact bf2
      have HW4 := hide' hW4
      clear hR3 hCT b2 bf2
      refine wp_region_classX [11] (C := TmC R (.slice (some ⟨g, 0, none⟩) ns.length vc) (clk + 1)) (by kernel_rfl) ?_
      rw [← hW4]
      clear hW4
      (refine wpAnyX_take (i := 0) (v := ?_) HCT.out rfl (by kernel_rfl) (by kernel_rfl) (by kernel_rfl) (by kernel_rfl) (fun _ _ _ h => h) (Or.inl ⟨by kernel_rfl, ?_⟩) ?_; rotate_left; (intro w hc; have k0 := hc.c0; have k1 := hc.c1; clear hc; go_simp; try with_reducible rfl))
      (refine wpAnyX_take (i := 1) (v := ?_) HCT.out rfl (by kernel_rfl) (by kernel_rfl) (by kernel_rfl) (by kernel_rfl) (fun _ _ _ h => h) (Or.inl ⟨by kernel_rfl, ?_⟩) ?_; rotate_left; (intro w hc; have k0 := hc.c0; have k1 := hc.c1; clear hc; go_simp; try with_reducible rfl))
      (refine wpAnyX_take (i := 2) (v := ?_) HCT.out rfl (by kernel_rfl) (by kernel_rfl) (by kernel_rfl) (by kernel_rfl) (fun _ _ _ h => h) (Or.inl ⟨by kernel_rfl, ?_⟩) ?_; rotate_left; (intro w hc; have k0 := hc.c0; have k1 := hc.c1; clear hc; go_simp; try with_reducible rfl))
      (refine wpAnyX_take (i := 3) (v := ?_) HCT.out rfl (by kernel_rfl) (by kernel_rfl) (by kernel_rfl) (by kernel_rfl) (fun _ _ _ h => h) (Or.inl ⟨by kernel_rfl, ?_⟩) ?_; rotate_left; (intro w hc; have k0 := hc.c0; have k1 := hc.c1; clear hc; go_simp; try with_reducible rfl))
      (refine wpAnyX_take (i := 4) (v := ?_) HCT.out rfl (by kernel_rfl) (by kernel_rfl) (by kernel_rfl) (by kernel_rfl) (fun _ _ _ h => h) (Or.inl ⟨by kernel_rfl, ?_⟩) ?_; rotate_left; (intro w hc; have k0 := hc.c0; have k1 := hc.c1; clear hc; go_simp; try with_reducible rfl))
      go_simp
      (refine wpAnyX_take (i := 5) (v := ?_) HCT.out rfl (by kernel_rfl) (by kernel_rfl) (by kernel_rfl) (by kernel_rfl) (fun _ _ _ h => h) (Or.inl ⟨by kernel_rfl, ?_⟩) ?_; rotate_left; (intro w hc; have k0 := hc.c0; have k1 := hc.c1; clear hc; go_simp; try with_reducible rfl))
      (refine wpAnyX_take (i := 6) (v := ?_) HCT.out rfl (by kernel_rfl) (by kernel_rfl) (by kernel_rfl) (by kernel_rfl) (fun _ _ _ h => h) (Or.inl ⟨by kernel_rfl, ?_⟩) ?_; rotate_left; (intro w hc; have k0 := hc.c0; have k1 := hc.c1; clear hc; go_simp; try with_reducible rfl))
      (refine wpAnyX_take (i := 7) (v := ?_) HCT.out rfl (by kernel_rfl) (by kernel_rfl) (by kernel_rfl) (by kernel_rfl) (fun _ _ _ h => h) (Or.inl ⟨by kernel_rfl, ?_⟩) ?_; rotate_left; (intro w hc; have k0 := hc.c0; have k1 := hc.c1; clear hc; go_simp; try with_reducible rfl))
      (refine wpAnyX_take (i := 8) (v := ?_) HCT.out rfl (by kernel_rfl) (by kernel_rfl) (by kernel_rfl) (by kernel_rfl) (fun _ _ _ h => h) (Or.inl ⟨by kernel_rfl, ?_⟩) ?_; rotate_left; (intro w hc; have k0 := hc.c0; have k1 := hc.c1; clear hc; go_simp; try with_reducible rfl))
      go_simp
      refine wpAnyX_one (i := 9) (by kernel_rfl) (wpOp_wanted rfl (by rfl) ?_)
      have hct := HCT.out
      go_simp
      refine wpAnyX_one (i := 10) (by kernel_rfl) (wpOp_wanted rfl (by rfl) ?_)
      go_simp
      refine wpAnyX_one (i := 11) (by kernel_rfl) (wpOp_wanted rfl (by rfl) ?_)
      go_simp
      refine wpAnyX_done (by kernel_rfl) ?_ _
      generalize hW5 : World.setCell _ _ _ = W5
      have HE : Hid (RfOut S R rm w (.returned (.int .i64 0)) W5 st) := by
        show RfOut _ _ _ _ _ _ _
        rw [HS1.out]
        have hR4 : RfAt (W4.setCell ⟨g, i * 4 + 2, none⟩ (.int .i64 (clk + 1))) (fun i => S i ∨ w.heap.size ≤ i) R (.slice (some ⟨g, 0, none⟩) (ns.set i ⟨n.path, .slice v3a L v3c, ⟨n.nd.dir, n.nd.time, D⟩⟩).length vc) ((ns.set i ⟨n.path, .slice v3a L v3c, ⟨n.nd.dir, n.nd.time, D⟩⟩).set i ⟨n.path, .slice v3a L v3c, ⟨n.nd.dir, clk + 1, D⟩⟩) (clk + 1) rm := by
          rw [HW4.out]
          exact HFIN.out.1.apart fun _ _ => rfl
        have hT4 : Turn (fun i => S i ∨ w.heap.size ≤ i) W3 (W4.setCell ⟨g, i * 4 + 2, none⟩ (.int .i64 (clk + 1))) := by
          rw [HW4.out]
          exact ⟨HFIN.out.2.os, HFIN.out.2.tape, HFIN.out.2.output, HFIN.out.2.size, HFIN.out.2.block⟩
        rw [hW5] at hR4 hT4
        refine ⟨rfl, _, _, _, hR4, ?_, (Turn.refl S w).trans ((HT2.out.trans' HR3.out.2).trans' hT4) (fun i hi => hi), fun i hi => hi⟩
        have hT := HIS.out.1
        have hTk : (ns.map toE)[i]? = some (n.path, n.nd) := by rw [List.getElem?_map, hT]; rfl
        rw [List.set_set, map_set]
        have := put_set H.out.gd.srt hTk (⟨false, clk + 1, D⟩ : Nd)
        rw [HIS.out.2.1] at this
        rw [this]
        show (ns.map toE).set i (n.path, ⟨n.nd.dir, clk + 1, D⟩) = _
        rw [HDIR.out, HIS.out.2.1]
      clear hW5
      go_wp2_with fail
      refine bodyPost_ret (v := .int .i64 0) (by simp [results, Tryz.results41, go_sem]) rfl ?_
      exact HE.out
end Go.Proofs.YtpbfhbnkalambaaGreatDoor
namespace Go.Proofs.YtpbfhbnkalambaaGreatDoor
open Go.RowKit Go.Maps

theorem rwrite_any (S : Nat → Prop) (R : Nat) (v : Value) (ns : List Nv) (clk rm : Int) (P : ByteArray) (bv : Value) (bs : Bs) (add : Bool) (w : World) (h : RGd w S R v ns clk rm) (hP : P.size ≤ 300000) (hb : Rds w bv bs) (hbl : bs.length ≤ 1000000) :
    Calls Tryz.prog 41 #[.pointer (some ⟨R, 0, none⟩), .string P, bv, .bool add] w fun r w' => RfOut S R rm w r w' (writeR (ns.map toE) clk rm (clean (tl P)) bs add) := by
  unfold writeR
  cases hk : lookN (ns.map toE) (clean (tl P)) with
  | bad m => exact rwrite_err S R v ns clk rm P bv bs add w h hP hb m (by rw [hk]; rfl)
  | rt => exact rwrite_err S R v ns clk rm P bv bs add w h hP hb 12 (by rw [hk]; rfl)
  | non => exact rwrite_non S R v ns clk rm P bv bs add w h hP hb hbl hk
  | is x =>
    cases hd : x.dir with
    | true =>
      have e : fileN (.is x) = .bad 12 := by simp [fileN, hd]
      rw [e]
      exact rwrite_err S R v ns clk rm P bv bs add w h hP hb 12 (by rw [hk]; exact e)
    | false =>
      have e : fileN (.is x) = .is x := by simp [fileN, hd]
      rw [e]
      cases add with
      | false => simpa using rwrite_is_false S R v ns clk rm P bv bs w h hP hb hbl x hk hd
      | true => simpa using rwrite_is_true S R v ns clk rm P bv bs w h hP hb hbl x hk hd
set_option maxRecDepth 100000 in
set_option maxHeartbeats 4000000 in
theorem rtouch_any (S : Nat → Prop) (R : Nat) (v : Value) (ns : List Nv) (clk rm : Int) (P : ByteArray) (w : World) (h : RGd w S R v ns clk rm) (hP : P.size ≤ 300000) :
    Calls Tryz.prog 45 #[.pointer (some ⟨R, 0, none⟩), .string P] w fun r w' => RfOut S R rm w r w' (touchR (ns.map toE) clk rm (clean (tl P))) := by
  obtain ⟨va, vc, hv⟩ := h.at_.row.len
  subst hv
  have q := rlook_any R _ ns clk rm P w h.at_.rb h.at_.nodes h.gd.srt h.len hP
  have qn := fun w1 (hb : Below w.heap.size w w1) => rwrite_any S R _ ns clk rm P (.slice none 0 0) [] false w1 (h.below hb) hP (.inl ⟨rfl, rfl⟩) (by simp)
  generalize clean (tl P) = c at q qn ⊢
  generalize hst : touchR (ns.map toE) clk rm c = st
  have HST := hide' hst
  have H := hide' h
  have QN := hide' qn
  clear hst h qn
  go_enter Tryz.func45, Tryz.ntmps45
  go_wp2_with fail
  refine q.mono ?_
  rintro e w1 ⟨hb1, k, er, rfl, hm⟩
  clear q
  have HB1 := hide' hb1
  clear hb1
  cases hk : lookN (ns.map toE) c with
  | bad m =>
    have hne : c ≠ [] := fun e => by rw [e] at hk; cases hk
    have hs0 : st = (m, ns.map toE, clk) := by rw [← HST.out]; unfold touchR; rw [if_neg hne, hk]
    have hm0 := lookN_bad hk
    rw [hk] at hm
    obtain ⟨rfl, rfl⟩ := hm
    have HE := hide' (rf_same H.out HB1.out m)
    rw [← hs0] at HE
    have h1 : ((m : Int) == 0) = false := beq_eq_false_iff_ne.2 (by omega)
    have h2 : ¬ (m : Int) = 0 := by omega
    clear hk HST hs0 hm0 hne
    dsimp only
    go_wp2_with fail
    refine bodyPost_ret (v := .int .i64 m) (by simp [results, Tryz.results45, go_sem]) rfl ?_
    exact HE.out
  | rt =>
    have hs0 : st = (0, ns.map toE, clk) := by
      rw [← HST.out]; unfold touchR; rw [hk]
      by_cases hne : c = []
      · rw [if_pos hne]
      · rw [if_neg hne]
    rw [hk] at hm
    obtain ⟨rfl, rfl⟩ := hm
    have HE := hide' (rf_same H.out HB1.out 0)
    rw [← hs0] at HE
    clear hk HST hs0
    dsimp only
    go_wp2_with fail
    refine bodyPost_ret (v := .int .i64 0) (by simp [results, Tryz.results45, go_sem]) rfl ?_
    exact HE.out
  | non =>
    have hnn := lookN_non hk
    have hs0 : st = writeR (ns.map toE) clk rm c [] false := by rw [← HST.out]; unfold touchR writeR; rw [if_neg hnn.2.2.1, hk]; simp [fileN]
    rw [hk] at hm
    obtain ⟨rfl, rfl⟩ := hm
    have q2 := QN.out w1 HB1.out
    rw [← hs0] at q2
    clear hk HST hs0 hnn
    dsimp only
    go_wp2_with fail
    refine q2.mono ?_
    rintro r w2 ⟨rfl, v', ns', S', hR3, hm3, hT3, hS3⟩
    have HE : Hid (RfOut S R rm w (.returned (.int .i64 (st.1 : Nat))) w2 st) := hide' ⟨rfl, v', ns', S', hR3, hm3, (Turn.of_below HB1.out).trans' hT3, fun i hi => (hS3 i hi).imp id fun h => Nat.le_trans HB1.out.size h⟩
    clear q2 hR3 hm3 hT3 hS3
    generalize st.1 = sn at *
    dsimp only
    go_wp2_with fail
    refine bodyPost_ret (v := .int .i64 sn) (by simp [results, Tryz.results45, go_sem]) rfl ?_
    exact HE.out
  | is x =>
    have hnn := lookN_is hk
    have hs0 : st = (0, put (ns.map toE) c { x with time := clk + 1 }, clk + 1) := by rw [← HST.out]; unfold touchR; rw [if_neg hnn.2.2.1, hk]
    rw [hk] at hm
    obtain ⟨rfl, i, n, rfl, hi, hp, rfl⟩ := hm
    have hil := (List.getElem?_eq_some_iff.1 hi).1
    have ki : (i : Int) < ns.length := by omega
    have ki3 : ((i : Int) == -2) = false := beq_eq_false_iff_ne.2 (by omega)
    have ki4 : ¬ (i : Int) = -2 := by omega
    have ki5 : ¬ (i : Int) < 0 := by omega
    have ki6 : (0 : Int) ≤ (i : Int) := by omega
    have HS0 := hide' hs0
    have HIS := hide' (And.intro hi hp)
    have hR1 := (H.out.below HB1.out).at_
    obtain ⟨g, rfl⟩ : ∃ g, va = some ⟨g, 0, none⟩ := by
      rcases hR1.row with ⟨_, e0⟩ | ⟨g, cap, cur, e, _⟩
      · rw [e0] at hi; simp at hi
      · cases e; exact ⟨g, rfl⟩
    have f1 : w1.frozen? ⟨R, 1, none⟩ = false := Lib.frozen_of_heap hR1.rb 1
    have c1 : w1.cell? ⟨R, 1, none⟩ = some (.int .i64 clk) := by have := hR1.rb; unfold Rb at this; rw [Lib.cell_of_heap this]; rfl
    have hck0 := H.out.c0
    have hck1 := H.out.c1
    have hwr : IntKind.i64.wrap (clk + 1) = clk + 1 := i64_id _ (by omega)
    clear hk HST hs0 hnn hi hp QN
    dsimp only
    go_upto_region 9 with fail
    generalize hW3 : World.setCell _ _ _ = W3
    have hR3 : RfAt W3 S R (.slice (some ⟨g, 0, none⟩) ns.length vc) ns (clk + 1) rm := by rw [← hW3]; exact (hR1.clock _).1
    have hT3 : Turn S w1 W3 := by rw [← hW3]; exact (hR1.clock _).2
    have HT3 := hide' ((Turn.of_below (S := S) HB1.out).trans' hT3)
    obtain ⟨b2, bf2⟩ : (∃ z, W3.cell? ⟨g, i * 4 + 2, none⟩ = some z) ∧ W3.frozen? ⟨g, i * 4 + 2, none⟩ = false := by
      rcases hR3.row with ⟨e0, _⟩ | ⟨g', cap, cur, e, hg, h1, h2, h4⟩
      · cases e0
      · cases e
        exact ⟨⟨_, cell_row (r := 2) hg h4 HIS.out.1 (by omega) rfl⟩, Lib.frozen_of_heap hg _⟩
    obtain ⟨z2, b2⟩ := b2
    have hCT : TmC R (.slice (some ⟨g, 0, none⟩) ns.length vc) (clk + 1) W3 := ⟨hR3.rb.cells, by have := hR3.rb; unfold Rb at this; rw [Lib.cell_of_heap this]; rfl⟩
    have HFIN := hide' (hR3.time HIS.out.1 (clk + 1))
    obtain ⟨W4, hW4⟩ : ∃ W4, W4 = W3.drew := ⟨_, rfl⟩
    have HCT : Hid (TmC R (.slice (some ⟨g, 0, none⟩) ns.length vc) (clk + 1) W4) := by rw [hW4]; exact hide' ⟨hCT.c0, hCT.c1⟩
    have b2' : W4.cell? ⟨g, i * 4 + 2, none⟩ = some z2 := by rw [hW4]; exact b2
    have bf2' : W4.frozen? ⟨g, i * 4 + 2, none⟩ = false := by rw [hW4]; exact bf2
    have HW4 := hide' hW4
    clear hR3 hCT b2 bf2 hT3 hW3 f1 c1 hwr hR1
    refine wp_region_classX [11] (C := TmC R (.slice (some ⟨g, 0, none⟩) ns.length vc) (clk + 1)) (by kernel_rfl) ?_
    rw [← hW4]
    clear hW4
    (refine wpAnyX_take (i := 0) (v := ?_) HCT.out rfl (by kernel_rfl) (by kernel_rfl) (by kernel_rfl) (by kernel_rfl) (fun _ _ _ h => h) (Or.inl ⟨by kernel_rfl, ?_⟩) ?_; rotate_left; (intro w hc; have k0 := hc.c0; have k1 := hc.c1; clear hc; go_simp; try with_reducible rfl))
    (refine wpAnyX_take (i := 1) (v := ?_) HCT.out rfl (by kernel_rfl) (by kernel_rfl) (by kernel_rfl) (by kernel_rfl) (fun _ _ _ h => h) (Or.inl ⟨by kernel_rfl, ?_⟩) ?_; rotate_left; (intro w hc; have k0 := hc.c0; have k1 := hc.c1; clear hc; go_simp; try with_reducible rfl))
    (refine wpAnyX_take (i := 2) (v := ?_) HCT.out rfl (by kernel_rfl) (by kernel_rfl) (by kernel_rfl) (by kernel_rfl) (fun _ _ _ h => h) (Or.inl ⟨by kernel_rfl, ?_⟩) ?_; rotate_left; (intro w hc; have k0 := hc.c0; have k1 := hc.c1; clear hc; go_simp; try with_reducible rfl))
    (refine wpAnyX_take (i := 3) (v := ?_) HCT.out rfl (by kernel_rfl) (by kernel_rfl) (by kernel_rfl) (by kernel_rfl) (fun _ _ _ h => h) (Or.inl ⟨by kernel_rfl, ?_⟩) ?_; rotate_left; (intro w hc; have k0 := hc.c0; have k1 := hc.c1; clear hc; go_simp; try with_reducible rfl))
    (refine wpAnyX_take (i := 4) (v := ?_) HCT.out rfl (by kernel_rfl) (by kernel_rfl) (by kernel_rfl) (by kernel_rfl) (fun _ _ _ h => h) (Or.inl ⟨by kernel_rfl, ?_⟩) ?_; rotate_left; (intro w hc; have k0 := hc.c0; have k1 := hc.c1; clear hc; go_simp; try with_reducible rfl))
    go_simp
    (refine wpAnyX_take (i := 5) (v := ?_) HCT.out rfl (by kernel_rfl) (by kernel_rfl) (by kernel_rfl) (by kernel_rfl) (fun _ _ _ h => h) (Or.inl ⟨by kernel_rfl, ?_⟩) ?_; rotate_left; (intro w hc; have k0 := hc.c0; have k1 := hc.c1; clear hc; go_simp; try with_reducible rfl))
    (refine wpAnyX_take (i := 6) (v := ?_) HCT.out rfl (by kernel_rfl) (by kernel_rfl) (by kernel_rfl) (by kernel_rfl) (fun _ _ _ h => h) (Or.inl ⟨by kernel_rfl, ?_⟩) ?_; rotate_left; (intro w hc; have k0 := hc.c0; have k1 := hc.c1; clear hc; go_simp; try with_reducible rfl))
    (refine wpAnyX_take (i := 7) (v := ?_) HCT.out rfl (by kernel_rfl) (by kernel_rfl) (by kernel_rfl) (by kernel_rfl) (fun _ _ _ h => h) (Or.inl ⟨by kernel_rfl, ?_⟩) ?_; rotate_left; (intro w hc; have k0 := hc.c0; have k1 := hc.c1; clear hc; go_simp; try with_reducible rfl))
    (refine wpAnyX_take (i := 8) (v := ?_) HCT.out rfl (by kernel_rfl) (by kernel_rfl) (by kernel_rfl) (by kernel_rfl) (fun _ _ _ h => h) (Or.inl ⟨by kernel_rfl, ?_⟩) ?_; rotate_left; (intro w hc; have k0 := hc.c0; have k1 := hc.c1; clear hc; go_simp; try with_reducible rfl))
    go_simp
    refine wpAnyX_one (i := 9) (by kernel_rfl) (wpOp_wanted rfl (by rfl) ?_)
    have hct := HCT.out
    go_simp
    refine wpAnyX_one (i := 10) (by kernel_rfl) (wpOp_wanted rfl (by rfl) ?_)
    go_simp
    refine wpAnyX_one (i := 11) (by kernel_rfl) (wpOp_wanted rfl (by rfl) ?_)
    go_simp
    refine wpAnyX_done (by kernel_rfl) ?_ _
    generalize hW5 : World.setCell _ _ _ = W5
    have HE : Hid (RfOut S R rm w (.returned (.int .i64 0)) W5 st) := by
      show RfOut _ _ _ _ _ _ _
      rw [HS0.out]
      have hR4 : RfAt (W4.setCell ⟨g, i * 4 + 2, none⟩ (.int .i64 (clk + 1))) S R (.slice (some ⟨g, 0, none⟩) ns.length vc) (ns.set i ⟨n.path, n.dv, ⟨n.nd.dir, clk + 1, n.nd.data⟩⟩) (clk + 1) rm := by
        rw [HW4.out]
        exact HFIN.out.1.apart fun _ _ => rfl
      have hT4 : Turn S W3 (W4.setCell ⟨g, i * 4 + 2, none⟩ (.int .i64 (clk + 1))) := by
        rw [HW4.out]
        exact ⟨HFIN.out.2.os, HFIN.out.2.tape, HFIN.out.2.output, HFIN.out.2.size, HFIN.out.2.block⟩
      rw [hW5] at hR4 hT4
      refine ⟨rfl, _, _, _, hR4, ?_, HT3.out.trans' hT4, fun i hi => .inl hi⟩
      have hTk : (ns.map toE)[i]? = some (n.path, n.nd) := by rw [List.getElem?_map, HIS.out.1]; rfl
      rw [map_set]
      have := put_set H.out.gd.srt hTk ({ n.nd with time := clk + 1 } : Nd)
      rw [HIS.out.2] at this
      rw [this]
      show (ns.map toE).set i (n.path, _) = _
      rw [HIS.out.2]
    clear hW5
    go_wp2_with fail
    refine bodyPost_ret (v := .int .i64 0) (by simp [results, Tryz.results45, go_sem]) rfl ?_
    exact HE.out
end Go.Proofs.YtpbfhbnkalambaaGreatDoor
