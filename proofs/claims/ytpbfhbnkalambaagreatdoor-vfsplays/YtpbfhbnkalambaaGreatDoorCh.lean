/- The contract of anvillaw5.change: both are changed alike. -/
import Derived.Test.YtpbfhbnkalambaaGreatDoorZc
namespace Go.Proofs.YtpbfhbnkalambaaGreatDoor
open Go.RowKit Go.Maps

theorem quiet_conv {o : Oper} {a : Act} {C : World → Prop} {K : Act → Prop} (x : Operand) (h : o.op = .convert 43 9 x) (v : Value) (bs : Bs) (hx : a.eval x = v) (hr : ∀ w, C w → (convert 43 9 v).run Tryz.prog w = .ok (.string (mk bs)) w) (hk : K (a.put o.dst (.string (mk bs)))) : o.quiet Tryz.prog a C K :=
  ⟨_, fun w hw => by
    unfold Oper.quietAt execOp
    simp only [h, Sem.run_bind, hx, hr w hw, Result.andThen_ok, Sem.run_pure]
    exact ⟨rfl, rfl⟩, hk⟩
/-- a part of bytes in a row of their own -/
theorem dat_cut {w : World} {g c n : Nat} {bs : Bs} {x : UInt8} (h : Dat w (.slice (some ⟨g, 0, none⟩) n c) (bs ++ [x])) : Rds w (.slice (some ⟨g, 0, none⟩) bs.length c) bs ∧ w.cell? ⟨g, bs.length, none⟩ = some (.int .u8 (x.toNat : Nat)) := by
  rcases h.rds with ⟨e, _⟩ | ⟨a, cap, e, hl, hc⟩
  · cases e
  · cases e
    refine ⟨.inr ⟨_, _, rfl, fun _ => hl (by simp), fun j u hj => ?_⟩, ?_⟩
    · have hjl := (List.getElem?_eq_some_iff.1 hj).1
      refine hc j u ?_
      rw [Lib.byteCells_append, List.getElem?_append_left hjl]
      exact hj
    · have := hc bs.length (.int .u8 (x.toNat : Nat)) (by
        rw [Lib.byteCells_append, List.getElem?_append_right (by rw [Lib.byteCells_length]; exact Nat.le_refl _), Lib.byteCells_length, Nat.sub_self]
        rfl)
      rw [add_zero] at this
      exact this
theorem ChAt.of_below {w w' : World} {lo : Nat} {Sf Sr : Nat → Prop} {A R : Nat} {clk rm : Int} {wc : World} (hb : Below w.heap.size w w') (h : ChAt w' lo Sf Sr A R clk rm wc) : ChAt w lo Sf Sr A R clk rm wc := by
  obtain ⟨Sf', Sr', v', ns', clk', h1, h2, h3, h4, h5⟩ := h
  exact ⟨Sf', Sr', v', ns', clk', h1, (Turn.of_below hb).trans' h2, fun i hi => (h3 i hi).imp id fun e => Nat.le_trans hb.size e, fun i hi => (h4 i hi).imp id fun e => Nat.le_trans hb.size e, h5⟩
/-- the op's box, in every world of a region -/
structure OpC (b : Nat) (P : ByteArray) (bv : Value) (w : World) : Prop where
  c1 : w.cell? ⟨b, 1, none⟩ = some (.string P)
  c3 : w.cell? ⟨b, 3, none⟩ = some bv
set_option maxRecDepth 100000 in
set_option maxHeartbeats 8000000 in
theorem change_any (B lo A R : Nat) (E : Addr) (Sf Sr : Nat → Prop) (v : Value) (ns : List Nv) (clk rm : Int) (kd : Int) (P Q : ByteArray) (bv : Value) (bs : Bs) (w : World) (h : BothAt w lo Sf Sr A R v ns clk rm) (hG : Glo B w E) (hB : B ≤ lo) (hlo : lo ≤ w.heap.size) (hc : clk + 1 ≤ 1099511627776000)
    (hP : P.size ≤ 200000) (hQ : Q.size ≤ 200000) (hb : Rds w bv bs) (hbl : bs.length ≤ 200000) (hbo : ∀ g, bv.ownBlock = some g → bs ≠ [] → g < lo) :
    Calls Tryz.prog 19 #[.pointer (some ⟨A, 0, none⟩), .pointer (some ⟨R, 0, none⟩), .agg #[.int .i64 kd, .string P, .string Q, bv]] w fun r w' => r = .returned (.bool true) ∧ ChAt w lo Sf Sr A R clk rm w' := by
  obtain ⟨ba, bc, hbv⟩ := hb.len
  have HBO := hide' hbo
  generalize hbln : bs.length = bl at hbv hbl
  obtain ⟨w0, hw0⟩ : ∃ w0, w0 = w.alloc (.cells #[.int .i64 kd, .string P, .string Q, .slice ba bl bc] 45) := ⟨_, rfl⟩
  have hb0 : Below w.heap.size w w0 := by rw [hw0]; exact (Below.refl _ _).alloc (Nat.le_refl _) _
  have z0 : w0.heap[w.heap.size]? = some (.cells #[.int .i64 kd, .string P, .string Q, .slice ba bl bc] 45 (0, 0)) := by rw [hw0]; exact alloc_new _ _
  have hs0 : w.heap.size < w0.heap.size := by rw [hw0]; simp
  have hr0 := hb.below hb0
  have p3 : w0.cell? ⟨w.heap.size, 3, none⟩ = some (.slice ba bl bc) := by rw [Lib.cell_of_heap z0]; rfl
  rw [hbv] at hr0 HBO
  have HBL := hide' hbln
  have HR0 := hide' hr0
  have HB0 := hide' hb0
  have HZ0 := hide' z0
  have HW0 := hide' hw0
  have H := hide' h
  have HG := hide' hG
  rw [hbv]
  clear hb0 z0 hr0 hw0 h hb hbv hG hbo hbln
  go_enter Tryz.func19, Tryz.ntmps19
  go_upto_region 1 with fail
  rw [← HW0.out]
  clear HW0
  go_upto_region 2 with (at_builtin; first
    | (refine wpList_plain rfl fun _ hK => ?_; refine wp_append_own2 (v := .slice none 0 0) (xs := []) _ _ _ rfl rfl rfl (Dat.nil _) HR0.out (by have := HBL.out; simp only [List.length_nil]; omega) ?_; intro v1 w1 hd1 _ hg1 hat1; rw [List.nil_append] at hd1; have hn1 : ∀ o, Dat (w1.alloc o) v1 bs := (fun o => hd1.kept fun g hg => Below.heap_alloc _ _ _ (hd1.lt g hg)); have hx1 : Rds (w1.alloc (.cells #[.int .u8 167] 5)) (.slice (some ⟨w1.heap.size, 0, none⟩) 1 1) [167] := (.inr ⟨_, _, rfl, fun _ => by simp, fun j u hj => by rw [add_zero, Lib.cell_of_heap (alloc_new _ _)]; simpa [Lib.byteCells] using hj⟩); refine hK _ _ ?_)
    | (refine wpList_plain rfl fun _ hK => ?_; refine wp_append_own2 (v := v1) (ys := [167]) _ _ _ rfl rfl rfl (hn1 _) hx1 (by have := HBL.out; simp only [List.length_singleton]; omega) ?_; intro v7 w7 hd7 _ hg7 hat7; refine hK _ _ ?_))
  have hB1 : Below w0.heap.size w0 w1 := ⟨hg1.os, hg1.tape, hg1.output, hg1.size, fun k hk => hg1.block k hk fun e => by cases e⟩
  have hown1 : ∀ g, v1.ownBlock = some g → w0.heap.size ≤ g := fun g hg => by
    rcases hat1 with h9 | h9
    · rw [h9] at hg; cases hg
    · rw [h9] at hg; cases hg; exact Nat.le_refl _
  have hB7 : Below w0.heap.size w0 w7 := (hB1.alloc hB1.size _).grown hg7 (by have := hB1.size; simp; omega) fun k e => hown1 k e
  have hown7 : ∀ g, v7.ownBlock = some g → w0.heap.size ≤ g := fun g hg => by
    rcases hat7 with h9 | h9
    · rw [h9] at hg; exact hown1 g hg
    · rw [h9] at hg; cases hg; have := hB1.size; simp; omega
  obtain ⟨gb, c7, hv7, hc7⟩ : ∃ gb c7, v7 = .slice (some ⟨gb, 0, none⟩) (bl + 1) c7 ∧ bl + 1 ≤ c7 := by
    have hl : (bs ++ [(167 : UInt8)]).length = bl + 1 := by rw [List.length_append, HBL.out]; rfl
    rcases hd7 with ⟨_, e⟩ | ⟨g, cap, cur, e, _, h1, _⟩
    · exact absurd e (by simp)
    · rw [hl] at e h1
      exact ⟨g, cap, e, h1⟩
  subst hv7
  have hgb : w0.heap.size ≤ gb := hown7 gb rfl
  have hgb7 : gb < w7.heap.size := hd7.lt gb rfl
  have hs7 := hB7.size
  have hBw7 : Below w.heap.size w w7 := HB0.out.trans (hB7.mono HB0.out.size)
  have z7 := (hB7.block w.heap.size hs0).trans HZ0.out
  have HBOTH := hide' (H.out.below hBw7)
  have HD7 := hide' hd7
  have HZ7 := hide' z7
  have HBW7 := hide' hBw7
  have HR7 := hide' (HR0.out.below hB7)
  have HG7 := hide' (HG.out.keep (hBw7.mono (Nat.le_trans hB hlo)))
  have hsl : ∀ W : World, (Instr.slice 43 (.slice (some ⟨gb, 0, none⟩) (bl + 1) c7) none (some (.int .i64 bl)) none).run Tryz.prog W = .ok (.slice (some ⟨gb, 0, none⟩) bl c7) W := fun W => by
    obtain ⟨i5, hi5, _, _, _⟩ := info_parts info5
    have h1 : bl ≤ c7 := by omega
    simp [Instr.slice, Instr.sliceBounds, Instr.sliceBound, asIntOf, run_underlying Tryz.underlying43, sizeOf, typeInfo, hi5, h1, Addr.add_lit]
  clear hB1 hown1 hB7 hown7 hd7 hBw7 hg1 hat1 hg7 hat7 hd1 hn1 hx1 p3 z7
  have q0 : w7.cell? ⟨w.heap.size, 0, none⟩ = some (.int .i64 kd) := by rw [Lib.cell_of_heap HZ7.out]; rfl
  have q1 : w7.cell? ⟨w.heap.size, 1, none⟩ = some (.string P) := by rw [Lib.cell_of_heap HZ7.out]; rfl
  have q2 : w7.cell? ⟨w.heap.size, 2, none⟩ = some (.string Q) := by rw [Lib.cell_of_heap HZ7.out]; rfl
  have q3 : w7.cell? ⟨w.heap.size, 3, none⟩ = some (.slice ba bl bc) := by rw [Lib.cell_of_heap HZ7.out]; rfl
  go_upto_block 0 with fail
  go_cut [8, 9] from 20 to 98 (fun ev wv wc => ∃ n : Nat, ev = .int .i64 n ∧ wv = .int .i64 n ∧ Hid (ChAt w7 lo Sf Sr A R clk rm wc))
  case first =>
    have hSB : ∀ i, Sf i → B ≤ i := fun i hi => Nat.le_trans hB (H.out.hf i hi).1
    have hBs : B ≤ w7.heap.size := by omega
    have hnF : ¬ Sf w.heap.size := fun hi => by have := (H.out.hf _ hi).2; omega
    have hnR : ¬ Sr w.heap.size := fun hi => by have := (H.out.hr _ hi).2; omega
    have hck : clk ≤ 1099511627776000 := by omega
    have hgd := H.out.rf.gd
    have hc0 := H.out.rf.c0
    have HGD := hide' hgd
    clear hgd
    by_cases n0 : kd.tmod 9 = 0
    · have m0 : (kd.tmod 9 == 0) = true := by rw [n0]; rfl
      have m1 : (kd.tmod 9 == 1) = false := by rw [n0]; rfl
      have m2 : (kd.tmod 9 == 2) = false := by rw [n0]; rfl
      have m3 : (kd.tmod 9 == 3) = false := by rw [n0]; rfl
      have m4 : (kd.tmod 9 == 4) = false := by rw [n0]; rfl
      have m5 : (kd.tmod 9 == 5) = false := by rw [n0]; rfl
      clear n0
      obtain ⟨W4, hW4⟩ : ∃ W4, W4 = w7.drew := ⟨_, rfl⟩
      have hb4 : Below w7.heap.size w7 W4 := by rw [hW4]; exact ⟨rfl, rfl, rfl, Nat.le_refl _, fun _ _ => rfl⟩
      have hs4 := hb4.size
      have z4 := (hb4.block w.heap.size (by omega)).trans HZ7.out
      have HOC : Hid (OpC w.heap.size P (.slice ba bl bc) W4) := hide' ⟨by rw [Lib.cell_of_heap z4]; rfl, by rw [Lib.cell_of_heap z4]; rfl⟩
      have hrb : Rds W4 (.slice (some ⟨gb, 0, none⟩) bl c7) bs := by
        have := (dat_cut HD7.out).1
        rw [HBL.out] at this
        exact this.below hb4
      have HBO4 := hide' (HBOTH.out.below hb4)
      have qf := Write_any B A E (ns.map toE) clk rm P bs (.slice (some ⟨gb, 0, none⟩) bl c7) false Sf W4 HBO4.out.fs (HG7.out.keep (hb4.mono hBs)) (by omega) hSB (by omega) (by omega) hrb (by have := HBL.out; omega)
      have HR4 := hide' (HR7.out.below hb4)
      have HB4 := hide' hb4
      clear hb4 hrb
      go_upto_region 6 with fail
      refine wp_region_classX [8, 9] (C := OpC w.heap.size P (.slice ba bl bc)) (by kernel_rfl) ?_
      rw [← hW4]
      clear hW4
      (refine wpAnyX_take (i := 0) (v := ?_) HOC.out rfl (by kernel_rfl) (by kernel_rfl) (by kernel_rfl) (by kernel_rfl) (fun _ _ _ h => h) (Or.inl ⟨by kernel_rfl, ?_⟩) ?_; rotate_left; (intro w hc; have k0 := hc.c1; have k1 := hc.c3; clear hc; go_simp; try with_reducible rfl))
      (refine wpAnyX_take (i := 1) (v := ?_) HOC.out rfl (by kernel_rfl) (by kernel_rfl) (by kernel_rfl) (by kernel_rfl) (fun _ _ _ h => h) (Or.inl ⟨by kernel_rfl, ?_⟩) ?_; rotate_left; (intro w hc; have k0 := hc.c1; have k1 := hc.c3; clear hc; go_simp; try with_reducible rfl))
      (refine wpAnyX_take (i := 2) (v := ?_) HOC.out rfl (by kernel_rfl) (by kernel_rfl) (by kernel_rfl) (by kernel_rfl) (fun _ _ _ h => h) (Or.inl ⟨by kernel_rfl, ?_⟩) ?_; rotate_left; (intro w hc; have k0 := hc.c1; have k1 := hc.c3; clear hc; go_simp; try with_reducible rfl))
      (refine wpAnyX_take (i := 3) (v := ?_) HOC.out rfl (by kernel_rfl) (by kernel_rfl) (by kernel_rfl) (by kernel_rfl) (fun _ _ _ h => h) (Or.inl ⟨by kernel_rfl, ?_⟩) ?_; rotate_left; (intro w hc; have k0 := hc.c1; have k1 := hc.c3; clear hc; go_simp; try with_reducible rfl))
      (refine wpAnyX_take (i := 4) (v := ?_) HOC.out rfl (by kernel_rfl) (by kernel_rfl) (by kernel_rfl) (by kernel_rfl) (fun _ _ _ h => h) (Or.inl ⟨by kernel_rfl, ?_⟩) ?_; rotate_left; (intro w hc; have k0 := hc.c1; have k1 := hc.c3; clear hc; go_simp; try with_reducible rfl))
      go_simp
      (refine wpAnyX_take (i := 5) (v := ?_) HOC.out rfl (by kernel_rfl) (by kernel_rfl) (by kernel_rfl) (by kernel_rfl) (fun _ _ _ h => h) (Or.inl ⟨by kernel_rfl, ?_⟩) ?_; rotate_left; (intro w hc; have k0 := hc.c1; have k1 := hc.c3; clear hc; go_simp; try with_reducible rfl))
      (refine wpAnyX_take (i := 6) (v := ?_) HOC.out rfl (by kernel_rfl) (by kernel_rfl) (by kernel_rfl) (by kernel_rfl) (fun _ _ _ h => h) (Or.inl ⟨by kernel_rfl, ?_⟩) ?_; rotate_left; (intro w hc; have k0 := hc.c1; have k1 := hc.c3; clear hc; go_simp; try with_reducible rfl))
      (refine wpAnyX_take (i := 7) (v := ?_) HOC.out rfl (by kernel_rfl) (by kernel_rfl) (by kernel_rfl) (by kernel_rfl) (fun _ _ _ h => h) (Or.inl ⟨by kernel_rfl, ?_⟩) ?_; rotate_left; (intro w hc; have k0 := hc.c1; have k1 := hc.c3; clear hc; go_simp; try with_reducible rfl))
      go_simp
      refine wpAnyX_one (i := 8) (by kernel_rfl) (wpOp_wanted rfl (by rfl) ?_)
      go_simp
      refine qf.mono ?_
      rintro r w8 ⟨rfl, h8⟩
      have H8 := hide' h8
      obtain ⟨S8, f1, f2, f3⟩ := h8
      have z8 := (f2.block w.heap.size (by omega) hnF).trans z4
      have x1 : w8.cell? ⟨w.heap.size, 1, none⟩ = some (.string P) := by rw [Lib.cell_of_heap z8]; rfl
      have x3 : w8.cell? ⟨w.heap.size, 3, none⟩ = some (.slice ba bl bc) := by rw [Lib.cell_of_heap z8]; rfl
      have hr8 : Rds w8 (.slice ba bl bc) bs := HR4.out.kept f2.size fun hne g hg => f2.block g (rds_lt HR4.out hne g hg) fun hs => by
        have h1 := (H.out.hf g hs).1
        have h2 := HBO.out g hg hne
        omega
      have qr := rwrite_any Sr R v ns clk rm P _ bs false w8 (HBO4.out.mid f2) (by omega) hr8 (by have := HBL.out; omega)
      clear qf z8 f1 f2 f3 z4 hr8 HR4
      dsimp only
      refine wpAnyX_one (i := 9) (by kernel_rfl) (wpOp_wanted rfl (by rfl) ?_)
      go_simp
      refine wpAnyX_done (by kernel_rfl) ?_ _
      go_wp2_with fail
      refine qr.mono ?_
      rintro r w9 ⟨rfl, h9⟩
      have HC := hide' (ChAt.of_below HB4.out (both_step HBO4.out (by omega) hc H8.out h9 (write_ok HGD.out hc0 _ _ _)))
      clear qr h9 H8
      dsimp only
      go_wp2_with fail
      go_meet
      case rel => exact ⟨_, rfl, rfl, HC⟩
    by_cases n1 : kd.tmod 9 = 1
    · have m0 : (kd.tmod 9 == 0) = false := by rw [n1]; rfl
      have m1 : (kd.tmod 9 == 1) = true := by rw [n1]; rfl
      have m2 : (kd.tmod 9 == 2) = false := by rw [n1]; rfl
      have m3 : (kd.tmod 9 == 3) = false := by rw [n1]; rfl
      have m4 : (kd.tmod 9 == 4) = false := by rw [n1]; rfl
      have m5 : (kd.tmod 9 == 5) = false := by rw [n1]; rfl
      clear n0 n1
      obtain ⟨W4, hW4⟩ : ∃ W4, W4 = w7.drew := ⟨_, rfl⟩
      have hb4 : Below w7.heap.size w7 W4 := by rw [hW4]; exact ⟨rfl, rfl, rfl, Nat.le_refl _, fun _ _ => rfl⟩
      have hs4 := hb4.size
      have z4 := (hb4.block w.heap.size (by omega)).trans HZ7.out
      have HOC : Hid (OpC w.heap.size P (.slice ba bl bc) W4) := hide' ⟨by rw [Lib.cell_of_heap z4]; rfl, by rw [Lib.cell_of_heap z4]; rfl⟩
      have hrb : Rds W4 (.slice (some ⟨gb, 0, none⟩) bl c7) bs := by
        have := (dat_cut HD7.out).1
        rw [HBL.out] at this
        exact this.below hb4
      have HBO4 := hide' (HBOTH.out.below hb4)
      have qf := Write_any B A E (ns.map toE) clk rm P bs (.slice (some ⟨gb, 0, none⟩) bl c7) true Sf W4 HBO4.out.fs (HG7.out.keep (hb4.mono hBs)) (by omega) hSB (by omega) (by omega) hrb (by have := HBL.out; omega)
      have HR4 := hide' (HR7.out.below hb4)
      have HB4 := hide' hb4
      clear hb4 hrb
      go_upto_region 9 with fail
      refine wp_region_classX [8, 9] (C := OpC w.heap.size P (.slice ba bl bc)) (by kernel_rfl) ?_
      rw [← hW4]
      clear hW4
      (refine wpAnyX_take (i := 0) (v := ?_) HOC.out rfl (by kernel_rfl) (by kernel_rfl) (by kernel_rfl) (by kernel_rfl) (fun _ _ _ h => h) (Or.inl ⟨by kernel_rfl, ?_⟩) ?_; rotate_left; (intro w hc; have k0 := hc.c1; have k1 := hc.c3; clear hc; go_simp; try with_reducible rfl))
      (refine wpAnyX_take (i := 1) (v := ?_) HOC.out rfl (by kernel_rfl) (by kernel_rfl) (by kernel_rfl) (by kernel_rfl) (fun _ _ _ h => h) (Or.inl ⟨by kernel_rfl, ?_⟩) ?_; rotate_left; (intro w hc; have k0 := hc.c1; have k1 := hc.c3; clear hc; go_simp; try with_reducible rfl))
      (refine wpAnyX_take (i := 2) (v := ?_) HOC.out rfl (by kernel_rfl) (by kernel_rfl) (by kernel_rfl) (by kernel_rfl) (fun _ _ _ h => h) (Or.inl ⟨by kernel_rfl, ?_⟩) ?_; rotate_left; (intro w hc; have k0 := hc.c1; have k1 := hc.c3; clear hc; go_simp; try with_reducible rfl))
      (refine wpAnyX_take (i := 3) (v := ?_) HOC.out rfl (by kernel_rfl) (by kernel_rfl) (by kernel_rfl) (by kernel_rfl) (fun _ _ _ h => h) (Or.inl ⟨by kernel_rfl, ?_⟩) ?_; rotate_left; (intro w hc; have k0 := hc.c1; have k1 := hc.c3; clear hc; go_simp; try with_reducible rfl))
      (refine wpAnyX_take (i := 4) (v := ?_) HOC.out rfl (by kernel_rfl) (by kernel_rfl) (by kernel_rfl) (by kernel_rfl) (fun _ _ _ h => h) (Or.inl ⟨by kernel_rfl, ?_⟩) ?_; rotate_left; (intro w hc; have k0 := hc.c1; have k1 := hc.c3; clear hc; go_simp; try with_reducible rfl))
      go_simp
      (refine wpAnyX_take (i := 5) (v := ?_) HOC.out rfl (by kernel_rfl) (by kernel_rfl) (by kernel_rfl) (by kernel_rfl) (fun _ _ _ h => h) (Or.inl ⟨by kernel_rfl, ?_⟩) ?_; rotate_left; (intro w hc; have k0 := hc.c1; have k1 := hc.c3; clear hc; go_simp; try with_reducible rfl))
      (refine wpAnyX_take (i := 6) (v := ?_) HOC.out rfl (by kernel_rfl) (by kernel_rfl) (by kernel_rfl) (by kernel_rfl) (fun _ _ _ h => h) (Or.inl ⟨by kernel_rfl, ?_⟩) ?_; rotate_left; (intro w hc; have k0 := hc.c1; have k1 := hc.c3; clear hc; go_simp; try with_reducible rfl))
      (refine wpAnyX_take (i := 7) (v := ?_) HOC.out rfl (by kernel_rfl) (by kernel_rfl) (by kernel_rfl) (by kernel_rfl) (fun _ _ _ h => h) (Or.inl ⟨by kernel_rfl, ?_⟩) ?_; rotate_left; (intro w hc; have k0 := hc.c1; have k1 := hc.c3; clear hc; go_simp; try with_reducible rfl))
      go_simp
      refine wpAnyX_one (i := 8) (by kernel_rfl) (wpOp_wanted rfl (by rfl) ?_)
      go_simp
      refine qf.mono ?_
      rintro r w8 ⟨rfl, h8⟩
      have H8 := hide' h8
      obtain ⟨S8, f1, f2, f3⟩ := h8
      have z8 := (f2.block w.heap.size (by omega) hnF).trans z4
      have x1 : w8.cell? ⟨w.heap.size, 1, none⟩ = some (.string P) := by rw [Lib.cell_of_heap z8]; rfl
      have x3 : w8.cell? ⟨w.heap.size, 3, none⟩ = some (.slice ba bl bc) := by rw [Lib.cell_of_heap z8]; rfl
      have hr8 : Rds w8 (.slice ba bl bc) bs := HR4.out.kept f2.size fun hne g hg => f2.block g (rds_lt HR4.out hne g hg) fun hs => by
        have h1 := (H.out.hf g hs).1
        have h2 := HBO.out g hg hne
        omega
      have qr := rwrite_any Sr R v ns clk rm P _ bs true w8 (HBO4.out.mid f2) (by omega) hr8 (by have := HBL.out; omega)
      clear qf z8 f1 f2 f3 z4 hr8 HR4
      dsimp only
      refine wpAnyX_one (i := 9) (by kernel_rfl) (wpOp_wanted rfl (by rfl) ?_)
      go_simp
      refine wpAnyX_done (by kernel_rfl) ?_ _
      go_wp2_with fail
      refine qr.mono ?_
      rintro r w9 ⟨rfl, h9⟩
      have HC := hide' (ChAt.of_below HB4.out (both_step HBO4.out (by omega) hc H8.out h9 (write_ok HGD.out hc0 _ _ _)))
      clear qr h9 H8
      dsimp only
      go_wp2_with fail
      go_meet
      case rel => exact ⟨_, rfl, rfl, HC⟩
    by_cases n2 : kd.tmod 9 = 2
    · have m0 : (kd.tmod 9 == 0) = false := by rw [n2]; rfl
      have m1 : (kd.tmod 9 == 1) = false := by rw [n2]; rfl
      have m2 : (kd.tmod 9 == 2) = true := by rw [n2]; rfl
      have m3 : (kd.tmod 9 == 3) = false := by rw [n2]; rfl
      have m4 : (kd.tmod 9 == 4) = false := by rw [n2]; rfl
      have m5 : (kd.tmod 9 == 5) = false := by rw [n2]; rfl
      have qf := Mkdir_any B A E (ns.map toE) clk rm P Sf w7 HBOTH.out.fs HG7.out hBs hSB (by omega) (by omega)
      go_wp2_with fail
      refine qf.mono ?_
      rintro r w8 ⟨rfl, h8⟩
      have H8 := hide' h8
      obtain ⟨S8, f1, f2, f3⟩ := h8
      have z8 := (f2.block w.heap.size (by omega) hnF).trans HZ7.out
      have x1 : w8.cell? ⟨w.heap.size, 1, none⟩ = some (.string P) := by rw [Lib.cell_of_heap z8]; rfl
      have qr := rmkdir_any Sr R v ns clk rm P w8 (HBOTH.out.mid f2) (by omega)
      clear qf z8 f1 f2 f3
      dsimp only
      go_wp2_with fail
      refine qr.mono ?_
      rintro r w9 ⟨rfl, h9⟩
      have HC := hide' (both_step HBOTH.out (by omega) hc H8.out h9 (mkdir_ok HGD.out hc0 _))
      clear qr h9 H8
      dsimp only
      go_wp2_with fail
      go_meet
      case rel => exact ⟨_, rfl, rfl, HC⟩
    by_cases n3 : kd.tmod 9 = 3
    · have m0 : (kd.tmod 9 == 0) = false := by rw [n3]; rfl
      have m1 : (kd.tmod 9 == 1) = false := by rw [n3]; rfl
      have m2 : (kd.tmod 9 == 2) = false := by rw [n3]; rfl
      have m3 : (kd.tmod 9 == 3) = true := by rw [n3]; rfl
      have m4 : (kd.tmod 9 == 4) = false := by rw [n3]; rfl
      have m5 : (kd.tmod 9 == 5) = false := by rw [n3]; rfl
      have qf := Remove_any B A E (ns.map toE) clk rm P Sf w7 HBOTH.out.fs HG7.out hBs hSB (by omega) (by omega)
      go_wp2_with fail
      refine qf.mono ?_
      rintro r w8 ⟨rfl, h8⟩
      have H8 := hide' h8
      obtain ⟨S8, f1, f2, f3⟩ := h8
      have z8 := (f2.block w.heap.size (by omega) hnF).trans HZ7.out
      have x1 : w8.cell? ⟨w.heap.size, 1, none⟩ = some (.string P) := by rw [Lib.cell_of_heap z8]; rfl
      have qr := rremove_any Sr R v ns clk rm P w8 (HBOTH.out.mid f2) (by omega)
      clear qf z8 f1 f2 f3
      dsimp only
      go_wp2_with fail
      refine qr.mono ?_
      rintro r w9 ⟨rfl, h9⟩
      have HC := hide' (both_step HBOTH.out (by omega) hc H8.out h9 (remove_ok HGD.out _))
      clear qr h9 H8
      dsimp only
      go_wp2_with fail
      go_meet
      case rel => exact ⟨_, rfl, rfl, HC⟩
    by_cases n4 : kd.tmod 9 = 4
    · have m0 : (kd.tmod 9 == 0) = false := by rw [n4]; rfl
      have m1 : (kd.tmod 9 == 1) = false := by rw [n4]; rfl
      have m2 : (kd.tmod 9 == 2) = false := by rw [n4]; rfl
      have m3 : (kd.tmod 9 == 3) = false := by rw [n4]; rfl
      have m4 : (kd.tmod 9 == 4) = true := by rw [n4]; rfl
      have m5 : (kd.tmod 9 == 5) = false := by rw [n4]; rfl
      have qf := Rename_any B A E (ns.map toE) clk rm P Q Sf w7 HBOTH.out.fs HG7.out hBs hSB (by omega) (by omega) (by omega)
      go_wp2_with fail
      refine qf.mono ?_
      rintro r w8 ⟨rfl, h8⟩
      have H8 := hide' h8
      obtain ⟨S8, f1, f2, f3⟩ := h8
      have z8 := (f2.block w.heap.size (by omega) hnF).trans HZ7.out
      have x1 : w8.cell? ⟨w.heap.size, 1, none⟩ = some (.string P) := by rw [Lib.cell_of_heap z8]; rfl
      have x2 : w8.cell? ⟨w.heap.size, 2, none⟩ = some (.string Q) := by rw [Lib.cell_of_heap z8]; rfl
      have qr := rrename_any Sr R v ns clk rm P Q w8 (HBOTH.out.mid f2) (by omega) (by omega)
      clear qf z8 f1 f2 f3
      dsimp only
      go_wp2_with fail
      refine qr.mono ?_
      rintro r w9 ⟨rfl, h9⟩
      have HC := hide' (both_step HBOTH.out (by omega) hc H8.out h9 (rename_ok HGD.out _ _))
      clear qr h9 H8
      dsimp only
      go_wp2_with fail
      go_meet
      case rel => exact ⟨_, rfl, rfl, HC⟩
    by_cases n5 : kd.tmod 9 = 5
    · have m0 : (kd.tmod 9 == 0) = false := by rw [n5]; rfl
      have m1 : (kd.tmod 9 == 1) = false := by rw [n5]; rfl
      have m2 : (kd.tmod 9 == 2) = false := by rw [n5]; rfl
      have m3 : (kd.tmod 9 == 3) = false := by rw [n5]; rfl
      have m4 : (kd.tmod 9 == 4) = false := by rw [n5]; rfl
      have m5 : (kd.tmod 9 == 5) = true := by rw [n5]; rfl
      have qf := Touch_any B A E (ns.map toE) clk rm P Sf w7 HBOTH.out.fs HG7.out hBs hSB (by omega) (by omega)
      go_wp2_with fail
      refine qf.mono ?_
      rintro r w8 ⟨rfl, h8⟩
      have H8 := hide' h8
      obtain ⟨S8, f1, f2, f3⟩ := h8
      have z8 := (f2.block w.heap.size (by omega) hnF).trans HZ7.out
      have x1 : w8.cell? ⟨w.heap.size, 1, none⟩ = some (.string P) := by rw [Lib.cell_of_heap z8]; rfl
      have qr := rtouch_any Sr R v ns clk rm P w8 (HBOTH.out.mid f2) (by omega)
      clear qf z8 f1 f2 f3
      dsimp only
      go_wp2_with fail
      refine qr.mono ?_
      rintro r w9 ⟨rfl, h9⟩
      have HC := hide' (both_step HBOTH.out (by omega) hc H8.out h9 (touch_ok HGD.out hc0 _))
      clear qr h9 H8
      dsimp only
      go_wp2_with fail
      go_meet
      case rel => exact ⟨_, rfl, rfl, HC⟩
    have m0 : (kd.tmod 9 == 0) = false := beq_eq_false_iff_ne.2 n0
    have m1 : (kd.tmod 9 == 1) = false := beq_eq_false_iff_ne.2 n1
    have m2 : (kd.tmod 9 == 2) = false := beq_eq_false_iff_ne.2 n2
    have m3 : (kd.tmod 9 == 3) = false := beq_eq_false_iff_ne.2 n3
    have m4 : (kd.tmod 9 == 4) = false := beq_eq_false_iff_ne.2 n4
    have m5 : (kd.tmod 9 == 5) = false := beq_eq_false_iff_ne.2 n5
    go_wp2_with fail
    go_meet
    case rel => exact ⟨0, rfl, rfl, hide' (both_same HBOTH.out)⟩
  case rest =>
    obtain ⟨nn, rfl, rfl, HC⟩ := hcut
    obtain ⟨Sf', Sr', v', ns', clk', hBo, hT, hSf, hSr, hclk⟩ := HC.out
    have hout : ∀ i, w.heap.size ≤ i → ¬ (Sf i ∨ Sr i) := fun i hi hs => by
      rcases hs with hs | hs
      · have := (H.out.hf i hs).2; omega
      · have := (H.out.hr i hs).2; omega
    have zc := (hT.block w.heap.size (by omega) (hout _ (Nat.le_refl _))).trans HZ7.out
    have y3 : wc.cell? ⟨w.heap.size, 3, none⟩ = some (.slice ba bl bc) := by rw [Lib.cell_of_heap zc]; rfl
    have hdc : Dat wc (.slice (some ⟨gb, 0, none⟩) (bl + 1) c7) (bs ++ [167]) := HD7.out.kept fun g hg => hT.block g (HD7.out.lt g hg) (hout g (by have e : gb = g := Option.some.inj hg; omega))
    have hra : Rds wc (.slice (some ⟨gb, 0, none⟩) bl c7) bs := by
      have := (dat_cut hdc).1
      rw [HBL.out] at this
      exact this
    have hx : wc.cell? ⟨gb, bl, none⟩ = some (.int .u8 167) := by
      have := (dat_cut hdc).2
      rw [HBL.out] at this
      exact this
    have hrb : Rds wc (.slice ba bl bc) bs := HR7.out.kept hT.size fun hne g hg => hT.block g (rds_lt HR7.out hne g hg) fun hs => by
      have h2 := HBO.out g hg hne
      rcases hs with hs | hs
      · have := (H.out.hf g hs).1; omega
      · have := (H.out.hr g hs).1; omega
    have hDb : DatB wc (fun g => g = gb) (.slice (some ⟨gb, 0, none⟩) (bl + 1) c7) := hdc.datB (fun g hg => by cases hg; rfl) (by have := HBL.out; simp; omega)
    have e1 : (bs == bs) = true := by simp
    have k1 : (bl : Int) < (bl : Int) + 1 := by omega
    have k0 : (0 : Int) ≤ (bl : Int) := by omega
    have hnF' : ¬ Sf' gb := fun hi => by
      rcases hSf gb hi with h | h
      · exact hout gb (by omega) (.inl h)
      · omega
    have hnR' : ¬ Sr' gb := fun hi => by
      rcases hSr gb hi with h | h
      · exact hout gb (by omega) (.inr h)
      · omega
    have HFIN : Hid (∀ wz, Turn (fun g => g = gb) wc wz → ChAt w lo Sf Sr A R clk rm wz) := hide' fun wz ht => by
      refine ⟨Sf', Sr', v', ns', clk', hBo.turn ht (fun i e => by rw [e]; exact ⟨hnF', hnR'⟩), ?_, fun i hi => (hSf i hi).imp id fun e => Nat.le_trans HBW7.out.size e, fun i hi => (hSr i hi).imp id fun e => Nat.le_trans HBW7.out.size e, hclk⟩
      refine (Turn.of_below HBW7.out).trans ((hT.mono (S' := fun i => (Sf i ∨ Sr i) ∨ i = gb) fun i hi => .inl hi).trans' (ht.mono fun i e => .inr e)) fun i hi => ?_
      rcases hi with hi | hi
      · exact .inl hi
      · exact .inr (by omega)
    have HDB := hide' hDb
    clear hdc zc hBo hT hSf hSr hclk hDb
    go_upto_region 23 with fail
    refine wp_region_quiet_lit (by kernel_rfl) (by kernel_rfl) ?_
    repeat (go_big_quiet_step (fail))
    go_big_quiet_want
    refine quiet_conv _ rfl _ bs rfl (fun w hw => by obtain ⟨n, rfl⟩ := hw; exact rds_str (hra.below (below_drewn n))) ?_
    go_big_quiet_on
    go_simp
    repeat (go_big_quiet_step (fail))
    go_big_quiet_want
    refine quiet_conv _ rfl _ bs rfl (fun w hw => by obtain ⟨n, rfl⟩ := hw; exact rds_str (hrb.below (below_drewn n))) ?_
    go_big_quiet_on
    go_simp
    repeat (go_big_quiet_step (fail))
    refine wpQuiet_nil ?_
    intro nq
    obtain ⟨w6, hw6⟩ : ∃ w6, w6 = wc.drewN nq := ⟨_, rfl⟩
    have hb6 : Below wc.heap.size wc w6 := by rw [hw6]; exact below_drewn nq
    try rw [← hw6]
    clear hw6 y3 hx hra hrb
    have HD6 := hide' (HDB.out.below hb6)
    have HT6 := hide' (Turn.of_below (S := fun g => g = gb) hb6)
    clear hb6 HDB
    go_wp2_with fail
    go_loopw [11] (fun i wr => ∃ k : Nat, k ≤ bl + 1 ∧ i = .int .i64 k ∧ Hid (DatB wr (fun g => g = gb) (.slice (some ⟨gb, 0, none⟩) (bl + 1) c7)) ∧ Hid (Turn (fun g => g = gb) wc wr)) (fun i _ => bl + 1 - (intOf i).toNat)
    case atStart => exact ⟨0, Nat.zero_le _, rfl, HD6, HT6⟩
    case round =>
      obtain ⟨k, hk, rfl, HDk, HTk⟩ := hrel
      by_cases hkl : k < bl + 1
      · have k2 : (k : Int) < (bl : Int) + 1 := by omega
        rcases HDk.out with e | ⟨g', n', cap', cur, e, h1, h2, h3, h4⟩
        · cases e
        · cases e
          obtain ⟨x, hx⟩ := h4 k hkl
          have d1 : wr.cell? ⟨gb, k, none⟩ = some (.int .u8 (x.toNat : Nat)) := by rw [Lib.cell_of_heap h2]; exact hx
          have f1 := Lib.frozen_of_heap h2 k
          clear h4 h2 h3 hx h1
          go_wp2_with fail
          obtain ⟨y, hy⟩ := xor_byte x
          rw [hy]
          exact ⟨⟨k + 1, by omega, by simp, hide' HDk.out.set, hide' (HTk.out.set rfl _ _)⟩, by simp [intOf]; omega⟩
      · obtain rfl : k = bl + 1 := by omega
        have k2 : ¬ ((bl + 1 : Nat) : Int) < (bl : Int) + 1 := by omega
        have HE := hide' (HFIN.out wr HTk.out)
        clear HFIN HDk HTk
        go_wp2_with (go_at_call 13; refine (num_any _ _).mono ?_; rintro r w5 ⟨rfl, rfl⟩)
        go_ret
        exact ⟨rfl, HE.out⟩
end Go.Proofs.YtpbfhbnkalambaaGreatDoor
