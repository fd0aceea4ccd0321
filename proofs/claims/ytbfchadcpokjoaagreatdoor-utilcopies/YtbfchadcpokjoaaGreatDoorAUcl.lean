/- The law UtilCopies, walked. -/
import Derived.Test.YtbfchadcpokjoaaGreatDoorAZd
namespace Go.Proofs.YtbfchadcpokjoaaGreatDoor
open Go.RowKit Go.Maps

theorem cpT_dat (b : Bool) (d : Bs) (hd : d.length ≤ 20000) : ∀ e ∈ cpT b d, e.2.data.length ≤ 1000000 := fun e he => by
  have := ((gd_cp b d hd).dat e he).2; omega
theorem mvT_dat (b : Bool) (d : Bs) (hd : d.length ≤ 20000) : ∀ e ∈ mvT b d, e.2.data.length ≤ 1000000 := fun e he => by
  have := ((gd_mv b d hd).dat e he).2; omega
set_option maxRecDepth 100000 in
set_option maxHeartbeats 8000000 in
theorem ucopies_any (B : Nat) (E : Addr) (v0 : Value) (d : Bs) (b : Bool) (w : World) (hG : Glo B w E) (hB : B ≤ w.heap.size) (hd : Rds w v0 d) (hl : d.length ≤ 140737488355328) :
    Calls Tryz.prog 4 #[v0, .bool b] w fun r w' => r = .returned (.bool true) ∧ Below w.heap.size w w' := by
  have qa := alive_any B E w hG hB
  obtain ⟨va, vc, hv0⟩ := hd.len
  have HA := hide' qa
  have HG := hide' hG
  have HD := hide' hd
  clear qa hG hd
  by_cases hsk : 20000 < d.length
  · have k1 : (20000 : Int) < d.length := by omega
    subst hv0
    clear HG HD
    go_enter Tryz.func4, Tryz.ntmps4
    go_wp2_with fail
    refine HA.out.mono ?_
    rintro r w1 ⟨rfl, hw1⟩
    go_wp2
    go_ret
    exact ⟨rfl, hw1⟩
  · have k1 : ¬ (20000 : Int) < d.length := by omega
    have hdl : d.length ≤ 20000 := by omega
    have hs1 := stats b d
    have hr1 := reads b d
    have hqs : (if b then [100] else [101]) = qOf b := rfl
    subst hv0
    go_enter Tryz.func4, Tryz.ntmps4
    go_wp2_with fail
    refine HA.out.mono ?_
    rintro r w1 ⟨rfl, hw1⟩
    clear HA
    go_wp2_with fail
    refine (tree_cells w1).mono ?_
    rintro r w2 ⟨g, bb, rfl, hg2, hb2, hbb, hgb, hw2⟩
    obtain ⟨W3, hW3⟩ : ∃ W, W = w2.alloc (.cells #[.slice (some ⟨g, 0, none⟩) 3 3, .int .i64 3, .int .i64 60000] 28) := ⟨_, rfl⟩
    have hgl := lt_of_block hg2
    have b3 : Below w2.heap.size w2 W3 := by rw [hW3]; exact (Below.refl _ _).alloc (Nat.le_refl _) _
    have hg3 := (b3.block g hgl).trans hg2
    have ht3 : W3.heap[w2.heap.size]? = some (.cells #[.slice (some ⟨g, 0, none⟩) 3 3, .int .i64 3, .int .i64 60000] 28 (0, 0)) := by rw [hW3]; exact heap_alloc_new w2 _
    have hb3 := (b3.block _ (lt_of_block hb2)).trans hb2
    have hB3 : Below w.heap.size w W3 := (hw1.trans (hw2.mono hw1.size)).trans (b3.mono (by have := hw1.size; have := hw2.size; omega))
    have hc0 : W3.cell? ⟨w2.heap.size, 0, none⟩ = some (.slice (some ⟨g, 0, none⟩) 3 3) := by rw [Lib.cell_of_heap ht3]; rfl
    have hc3 : W3.cell? ⟨g, 3, none⟩ = some (.slice (some ⟨bb, 0, none⟩) 1 1) := by rw [Lib.cell_of_heap hg3]; rfl
    have hf3 := Lib.frozen_of_heap hg3 3
    have hwg : w.heap.size ≤ g := by have := hw1.size; omega
    obtain ⟨W4, hW4⟩ : ∃ W, W = W3.setCell ⟨g, 3, none⟩ (.slice va d.length vc) := ⟨_, rfl⟩
    have hg4 : W4.heap[g]? = some (.cells (rowD bb (.slice va d.length vc)) 35 (0, 0)) := by rw [hW4]; exact set_row hg3 3 _
    have hk4 : ∀ j, j ≠ g → W4.heap[j]? = W3.heap[j]? := fun j hj => by rw [hW4]; exact Below.heap_setCell _ ⟨g, 3, none⟩ _ j (by simpa using hj)
    have hB4 : Below w.heap.size w W4 := by rw [hW4]; exact hB3.setCell (p := ⟨g, 3, none⟩) hwg _
    have hd4 : Rds W4 (.slice va d.length vc) d := HD.out.below hB4
    have hN4 : Nodes W4 (.slice (some ⟨g, 0, none⟩) 3 3) (tnsD bb (.slice va d.length vc) d) := tnsD_nodes hd4 ((hk4 _ (by omega)).trans hb3) hg4
    have ht4 := (hk4 _ (by omega : w2.heap.size ≠ g)).trans ht3
    have HB4 := hide' hB4
    have HN4 := hide' hN4
    have HT4 := hide' ht4
    have hs4 : w2.heap.size < W4.heap.size := lt_of_block ht4
    clear hB4 hN4 ht4 hd4 hk4 hg4 hB3 hb3 ht3 hg3 b3 hw2 hw1 hg2 hb2
    have HW4 := hide' hW4
    clear hW4
    cases b with
    | false =>
      go_upto_region 5 with fail
      rw [← hW3]
      clear hW3
      go_upto_region 11 with fail
      rw [← HW4.out]
      clear HW4
      clear hc0 hc3 hf3
      have hc0 : W4.cell? ⟨w2.heap.size, 0, none⟩ = some (.slice (some ⟨g, 0, none⟩) 3 3) := by rw [Lib.cell_of_heap HT4.out]; rfl
      have hc1 : W4.cell? ⟨w2.heap.size, 1, none⟩ = some (.int .i64 3) := by rw [Lib.cell_of_heap HT4.out]; rfl
      have hc2 : W4.cell? ⟨w2.heap.size, 2, none⟩ = some (.int .i64 60000) := by rw [Lib.cell_of_heap HT4.out]; rfl
      obtain ⟨W5, hW5⟩ : ∃ W, W = W4.alloc (.cells #[.string ⟨#[99, 112]⟩, .string ⟨#[97]⟩, .string ⟨#[101]⟩] 9) := ⟨_, rfl⟩
      have b5 : Below W4.heap.size W4 W5 := by rw [hW5]; exact (Below.refl _ _).alloc (Nat.le_refl _) _
      have B5 : Below w.heap.size w W5 := HB4.out.trans (b5.mono HB4.out.size)
      have t5 : Txs W5 (.slice (some ⟨W4.heap.size, 0, none⟩) 3 3) [[99, 112], [97], qOf false] := by rw [hW5]; exact txs_new W4 [[99, 112], [97], [101]]
      have q5 := lrun_cp B bb E false _ _ _ d W5 hdl (HN4.out.below b5) (HG.out.keep (B5.mono hB)) (Nat.le_trans hB B5.size) t5
      have HQ := hide' q5
      have HB5 := hide' B5
      have hs45 := b5.size
      have HN5 := hide' (HN4.out.below b5)
      have HT5 := hide' ((b5.block _ (lt_of_block HT4.out)).trans HT4.out)
      clear q5 b5 B5 t5 HN4 HB4 HT4
      have HW5 := hide' hW5
      clear hW5
      go_wp2_with fail
      rw [← HW5.out]
      clear HW5
      refine HQ.out.mono ?_
      rintro r w6 ⟨s6, ta6, tn6, tc6, ns6, rfl, hn6, ht6, b6⟩
      clear HQ hc0 hc1 hc2
      have B6 : Below w.heap.size w w6 := HB5.out.trans (b6.mono HB5.out.size)
      obtain ⟨W7, hW7⟩ : ∃ W, W = w6.alloc (.cells #[.slice ta6 tn6 tc6, .int .i64 4, .int .i64 60000] 28) := ⟨_, rfl⟩
      have b7 : Below w6.heap.size w6 W7 := by rw [hW7]; exact (Below.refl _ _).alloc (Nat.le_refl _) _
      have X7 : W7.heap[w6.heap.size]? = some (.cells #[.slice ta6 tn6 tc6, .int .i64 4, .int .i64 60000] 28 (0, 0)) := by rw [hW7]; exact heap_alloc_new w6 _
      have T7 := (b7.block _ (Nat.lt_of_lt_of_le (lt_of_block HT5.out) b6.size)).trans ((b6.block _ (lt_of_block HT5.out)).trans HT5.out)
      have B7 : Below w.heap.size w W7 := B6.trans (b7.mono B6.size)
      have N7 := (HN5.out.below b6).below b7
      have M7 := hn6.below b7
      have hs67 := b7.size
      have hs56 := b6.size
      have hc0 : W7.cell? ⟨w2.heap.size, 0, none⟩ = some (.slice (some ⟨g, 0, none⟩) 3 3) := by rw [Lib.cell_of_heap T7]; rfl
      have hc1 : W7.cell? ⟨w2.heap.size, 1, none⟩ = some (.int .i64 3) := by rw [Lib.cell_of_heap T7]; rfl
      have hc2 : W7.cell? ⟨w2.heap.size, 2, none⟩ = some (.int .i64 60000) := by rw [Lib.cell_of_heap T7]; rfl
      obtain ⟨W8, hW8⟩ : ∃ W, W = W7.alloc (.cells #[.string ⟨#[109, 118]⟩, .string ⟨#[97]⟩, .string ⟨#[101]⟩] 9) := ⟨_, rfl⟩
      have b8 : Below W7.heap.size W7 W8 := by rw [hW8]; exact (Below.refl _ _).alloc (Nat.le_refl _) _
      have B8 : Below w.heap.size w W8 := B7.trans (b8.mono B7.size)
      have t8 : Txs W8 (.slice (some ⟨W7.heap.size, 0, none⟩) 3 3) [[109, 118], [97], qOf false] := by rw [hW8]; exact txs_new W7 [[109, 118], [97], [101]]
      have q8 := lrun_mv B bb E false _ _ _ d W8 hdl (N7.below b8) (HG.out.keep (B8.mono hB)) (Nat.le_trans hB B8.size) t8
      have HQ := hide' q8
      have HB8 := hide' B8
      have HM8 := hide' (M7.below b8)
      have HX8 := hide' ((b8.block _ (lt_of_block X7)).trans X7)
      have hs78 := b8.size
      have HT6 := hide' ht6
      clear q8 b8 B8 t8 N7 M7 B7 T7 b7 B6 hn6 b6 HN5 HB5 HT5 X7 ht6
      have HW7 := hide' hW7
      have HW8 := hide' hW8
      clear hW7 hW8
      go_upto_region 12 with fail
      rw [← HW7.out]
      clear HW7
      go_wp2_with fail
      rw [← HW8.out]
      clear HW8
      refine HQ.out.mono ?_
      rintro r w9 ⟨s9, ta9, tn9, tc9, ns9, rfl, hn9, ht9, b9⟩
      clear HQ hc0 hc1 hc2
      have B9 : Below w.heap.size w w9 := HB8.out.trans (b9.mono HB8.out.size)
      obtain ⟨W10, hW10⟩ : ∃ W, W = w9.alloc (.cells #[.slice ta9 tn9 tc9, .int .i64 4, .int .i64 60000] 28) := ⟨_, rfl⟩
      have b10 : Below w9.heap.size w9 W10 := by rw [hW10]; exact (Below.refl _ _).alloc (Nat.le_refl _) _
      have Y10 : W10.heap[w9.heap.size]? = some (.cells #[.slice ta9 tn9 tc9, .int .i64 4, .int .i64 60000] 28 (0, 0)) := by rw [hW10]; exact heap_alloc_new w9 _
      have X10 := (b10.block _ (Nat.lt_of_lt_of_le (lt_of_block HX8.out) b9.size)).trans ((b9.block _ (lt_of_block HX8.out)).trans HX8.out)
      have B10 : Below w.heap.size w W10 := B9.trans (b10.mono B9.size)
      have M10 := (HM8.out.below b9).below b10
      have N10 := hn9.below b10
      have hs910 := b10.size
      have hs89 := b9.size
      have hc0 : W10.cell? ⟨w6.heap.size, 0, none⟩ = some (.slice ta6 tn6 tc6) := by rw [Lib.cell_of_heap X10]; rfl
      have hc1 : W10.cell? ⟨w6.heap.size, 1, none⟩ = some (.int .i64 4) := by rw [Lib.cell_of_heap X10]; rfl
      have hc2 : W10.cell? ⟨w6.heap.size, 2, none⟩ = some (.int .i64 60000) := by rw [Lib.cell_of_heap X10]; rfl
      have q10 := new_ok B E _ ns6 (cpT false d) W10 M10 (HG.out.keep (B10.mono hB)) (Nat.le_trans hB B10.size) HT6.out (gd_cp false d hdl) (by rw [wt_cp]; omega) (by simp [cpT])
      have HQ := hide' q10
      have HW10 := hide' hW10
      have HB10 := hide' B10
      have HY10 := hide' Y10
      have HN10 := hide' N10
      have HT9 := hide' ht9
      clear q10 hW10 B10 Y10 X10 N10 M10 ht9 B9 b10 b9 hn9 HX8 HM8 HB8 HT6
      go_upto_region 13 with fail
      rw [← HW10.out]
      clear HW10
      go_wp2_with fail
      refine HQ.out.mono ?_
      rintro r w11 ⟨G1, rfl, hf1, b11⟩
      clear HQ hc0 hc1 hc2
      have B11 : Below w.heap.size w w11 := HB10.out.trans (b11.mono HB10.out.size)
      have Y11 := (b11.block _ (lt_of_block HY10.out)).trans HY10.out
      have hc0 : w11.cell? ⟨w9.heap.size, 0, none⟩ = some (.slice ta9 tn9 tc9) := by rw [Lib.cell_of_heap Y11]; rfl
      have hc1 : w11.cell? ⟨w9.heap.size, 1, none⟩ = some (.int .i64 4) := by rw [Lib.cell_of_heap Y11]; rfl
      have hc2 : w11.cell? ⟨w9.heap.size, 2, none⟩ = some (.int .i64 60000) := by rw [Lib.cell_of_heap Y11]; rfl
      have q11 := new_ok B E _ ns9 (mvT false d) w11 (HN10.out.below b11) (HG.out.keep (B11.mono hB)) (Nat.le_trans hB B11.size) HT9.out (gd_mv false d hdl) (by rw [wt_mv]; omega) (by simp [mvT])
      have HQ := hide' q11
      have HB11 := hide' B11
      have HF1 := hide' hf1
      clear q11 B11 Y11 hf1 b11 HY10 HN10 HB10 HT9
      go_wp2_with fail
      refine HQ.out.mono ?_
      rintro r w12 ⟨G2, rfl, hf2, b12⟩
      clear HQ hc0 hc1 hc2
      have B12 : Below w.heap.size w w12 := HB11.out.trans (b12.mono HB11.out.size)
      have f1 := HF1.out.below b12
      obtain ⟨e1, e2, e3⟩ := hr1
      obtain ⟨g1, g2, g3⟩ := hs1
      have q1 := fun W (hb : Below w12.heap.size w12 W) => Read_any B G1 E (cpT false d) 4 60000 (mk [101]) _ W (f1.below hb) ((HG.out.keep (B12.mono hB)).keep (hb.mono (Nat.le_trans hB B12.size))) (Nat.le_trans (Nat.le_trans hB B12.size) hb.size) (by rw [mk_size]; simp) (cpT_dat false d hdl)
      have q2 := fun W (hb : Below w12.heap.size w12 W) => Read_any B G1 E (cpT false d) 4 60000 (mk [97]) _ W (f1.below hb) ((HG.out.keep (B12.mono hB)).keep (hb.mono (Nat.le_trans hB B12.size))) (Nat.le_trans (Nat.le_trans hB B12.size) hb.size) (by rw [mk_size]; simp) (cpT_dat false d hdl)
      have q3 := fun W (hb : Below w12.heap.size w12 W) => Read_any B G2 E (mvT false d) 4 60000 (mk [101]) _ W (hf2.below hb) ((HG.out.keep (B12.mono hB)).keep (hb.mono (Nat.le_trans hB B12.size))) (Nat.le_trans (Nat.le_trans hB B12.size) hb.size) (by rw [mk_size]; simp) (mvT_dat false d hdl)
      have q4 := fun W (hb : Below w12.heap.size w12 W) => Stat_any B G2 E (mvT false d) 4 60000 (mk [97]) _ W (hf2.below hb) ((HG.out.keep (B12.mono hB)).keep (hb.mono (Nat.le_trans hB B12.size))) (Nat.le_trans (Nat.le_trans hB B12.size) hb.size) (by rw [mk_size]; simp)
      have q5 := fun W (hb : Below w12.heap.size w12 W) => Stat_any B G2 E (mvT false d) 4 60000 (mk [101]) _ W (hf2.below hb) ((HG.out.keep (B12.mono hB)).keep (hb.mono (Nat.le_trans hB B12.size))) (Nat.le_trans (Nat.le_trans hB B12.size) hb.size) (by rw [mk_size]; simp)
      have q6 := fun W (hb : Below w12.heap.size w12 W) => Stat_any B G1 E (cpT false d) 4 60000 (mk [101]) _ W (f1.below hb) ((HG.out.keep (B12.mono hB)).keep (hb.mono (Nat.le_trans hB B12.size))) (Nat.le_trans (Nat.le_trans hB B12.size) hb.size) (by rw [mk_size]; simp)
      simp only [tl_mk, show ([101] : Bs) = atOf false from rfl, e1, e2, e3, g1, g2, g3, statV] at q1 q2 q3 q4 q5 q6
      have Q1 := hide' q1
      have Q2 := hide' q2
      have Q3 := hide' q3
      have Q4 := hide' q4
      have Q5 := hide' q5
      have Q6 := hide' q6
      have HB12 := hide' B12
      clear q1 q2 q3 q4 q5 q6 f1 hf2 e1 e2 e3 g1 g2 g3 b12 HF1 HB11 B12
      have HL12 : Hid (Below w12.heap.size w12 w12) := hide' (Below.refl _ _)
      go_wp2_with (go_at_call 12; refine (lnum_any _ _).mono ?_; rintro r wn ⟨rfl, hwn⟩; obtain rfl := hwn.symm)
      refine (Q1.out _ HL12.out).mono ?_
      rintro r w13 ⟨b13, u13, er13, rfl, d13, rfl, _⟩
      obtain ⟨ua13, uc13, hu13⟩ := d13.len
      subst hu13
      have HL13 := hide' (HL12.out.trans (b13.mono HL12.out.size))
      have D13 := hide' d13.rds
      clear d13 b13
      go_wp2_with fail
      refine (Q2.out _ HL13.out).mono ?_
      rintro r w14 ⟨b14, u14, er14, rfl, d14, rfl, _⟩
      obtain ⟨ua14, uc14, hu14⟩ := d14.len
      subst hu14
      have HL14 := hide' (HL13.out.trans (b14.mono HL13.out.size))
      have D14 := hide' d14.rds
      have E14 := hide' (D13.out.below b14)
      clear d14 b14 D13
      go_wp2_with fail
      refine (Q3.out _ HL14.out).mono ?_
      rintro r w15 ⟨b15, u15, er15, rfl, d15, rfl, _⟩
      obtain ⟨ua15, uc15, hu15⟩ := d15.len
      subst hu15
      have HL15 := hide' (HL14.out.trans (b15.mono HL14.out.size))
      have cv1 := rds_str (E14.out.below b15)
      have cv2 := rds_str (D14.out.below b15)
      have cv3 := rds_str d15.rds
      have cv0 := rds_str (HD.out.below (HB12.out.trans (HL15.out.mono HB12.out.size)))
      have hfl0 : ∀ (W : World) (x y z : Int), (Instr.field 44 (.agg #[.int .i64 x, .int .i64 y, .int .i64 z]) 0).run Tryz.prog W = .ok (.int .i64 x) W := fun W x y z => by kernel_rfl
      have hfl1 : ∀ (W : World) (x y z : Int), (Instr.field 44 (.agg #[.int .i64 x, .int .i64 y, .int .i64 z]) 1).run Tryz.prog W = .ok (.int .i64 y) W := fun W x y z => by kernel_rfl
      clear d15 b15 D14 E14 Q1 Q2 Q3 HL12 HL13 HL14
      go_wp2_with fail
      refine (Q4.out _ HL15.out).mono ?_
      rintro r w16 ⟨rfl, b16⟩
      have HL16 := hide' (HL15.out.trans (b16.mono HL15.out.size))
      clear b16 cv0 cv1 cv2 cv3
      go_wp2_with fail
      refine (Q5.out _ HL16.out).mono ?_
      rintro r w17 ⟨rfl, b17⟩
      have HL17 := hide' (HL16.out.trans (b17.mono HL16.out.size))
      clear b17
      go_wp2_with fail
      refine (Q6.out _ HL17.out).mono ?_
      rintro r w18 ⟨rfl, b18⟩
      have HL18 := hide' (HL17.out.trans (b18.mono HL17.out.size))
      clear b18
      go_wp2
      go_ret
      exact ⟨rfl, HB12.out.trans (HL18.out.mono HB12.out.size)⟩
    | true =>
      go_upto_region 5 with fail
      rw [← hW3]
      clear hW3
      go_upto_region 11 with fail
      rw [← HW4.out]
      clear HW4
      clear hc0 hc3 hf3
      have hc0 : W4.cell? ⟨w2.heap.size, 0, none⟩ = some (.slice (some ⟨g, 0, none⟩) 3 3) := by rw [Lib.cell_of_heap HT4.out]; rfl
      have hc1 : W4.cell? ⟨w2.heap.size, 1, none⟩ = some (.int .i64 3) := by rw [Lib.cell_of_heap HT4.out]; rfl
      have hc2 : W4.cell? ⟨w2.heap.size, 2, none⟩ = some (.int .i64 60000) := by rw [Lib.cell_of_heap HT4.out]; rfl
      obtain ⟨W5, hW5⟩ : ∃ W, W = W4.alloc (.cells #[.string ⟨#[99, 112]⟩, .string ⟨#[97]⟩, .string ⟨#[100]⟩] 9) := ⟨_, rfl⟩
      have b5 : Below W4.heap.size W4 W5 := by rw [hW5]; exact (Below.refl _ _).alloc (Nat.le_refl _) _
      have B5 : Below w.heap.size w W5 := HB4.out.trans (b5.mono HB4.out.size)
      have t5 : Txs W5 (.slice (some ⟨W4.heap.size, 0, none⟩) 3 3) [[99, 112], [97], qOf true] := by rw [hW5]; exact txs_new W4 [[99, 112], [97], [100]]
      have q5 := lrun_cp B bb E true _ _ _ d W5 hdl (HN4.out.below b5) (HG.out.keep (B5.mono hB)) (Nat.le_trans hB B5.size) t5
      have HQ := hide' q5
      have HB5 := hide' B5
      have hs45 := b5.size
      have HN5 := hide' (HN4.out.below b5)
      have HT5 := hide' ((b5.block _ (lt_of_block HT4.out)).trans HT4.out)
      clear q5 b5 B5 t5 HN4 HB4 HT4
      have HW5 := hide' hW5
      clear hW5
      go_wp2_with fail
      rw [← HW5.out]
      clear HW5
      refine HQ.out.mono ?_
      rintro r w6 ⟨s6, ta6, tn6, tc6, ns6, rfl, hn6, ht6, b6⟩
      clear HQ hc0 hc1 hc2
      have B6 : Below w.heap.size w w6 := HB5.out.trans (b6.mono HB5.out.size)
      obtain ⟨W7, hW7⟩ : ∃ W, W = w6.alloc (.cells #[.slice ta6 tn6 tc6, .int .i64 4, .int .i64 60000] 28) := ⟨_, rfl⟩
      have b7 : Below w6.heap.size w6 W7 := by rw [hW7]; exact (Below.refl _ _).alloc (Nat.le_refl _) _
      have X7 : W7.heap[w6.heap.size]? = some (.cells #[.slice ta6 tn6 tc6, .int .i64 4, .int .i64 60000] 28 (0, 0)) := by rw [hW7]; exact heap_alloc_new w6 _
      have T7 := (b7.block _ (Nat.lt_of_lt_of_le (lt_of_block HT5.out) b6.size)).trans ((b6.block _ (lt_of_block HT5.out)).trans HT5.out)
      have B7 : Below w.heap.size w W7 := B6.trans (b7.mono B6.size)
      have N7 := (HN5.out.below b6).below b7
      have M7 := hn6.below b7
      have hs67 := b7.size
      have hs56 := b6.size
      have hc0 : W7.cell? ⟨w2.heap.size, 0, none⟩ = some (.slice (some ⟨g, 0, none⟩) 3 3) := by rw [Lib.cell_of_heap T7]; rfl
      have hc1 : W7.cell? ⟨w2.heap.size, 1, none⟩ = some (.int .i64 3) := by rw [Lib.cell_of_heap T7]; rfl
      have hc2 : W7.cell? ⟨w2.heap.size, 2, none⟩ = some (.int .i64 60000) := by rw [Lib.cell_of_heap T7]; rfl
      obtain ⟨W8, hW8⟩ : ∃ W, W = W7.alloc (.cells #[.string ⟨#[109, 118]⟩, .string ⟨#[97]⟩, .string ⟨#[100]⟩] 9) := ⟨_, rfl⟩
      have b8 : Below W7.heap.size W7 W8 := by rw [hW8]; exact (Below.refl _ _).alloc (Nat.le_refl _) _
      have B8 : Below w.heap.size w W8 := B7.trans (b8.mono B7.size)
      have t8 : Txs W8 (.slice (some ⟨W7.heap.size, 0, none⟩) 3 3) [[109, 118], [97], qOf true] := by rw [hW8]; exact txs_new W7 [[109, 118], [97], [100]]
      have q8 := lrun_mv B bb E true _ _ _ d W8 hdl (N7.below b8) (HG.out.keep (B8.mono hB)) (Nat.le_trans hB B8.size) t8
      have HQ := hide' q8
      have HB8 := hide' B8
      have HM8 := hide' (M7.below b8)
      have HX8 := hide' ((b8.block _ (lt_of_block X7)).trans X7)
      have hs78 := b8.size
      have HT6 := hide' ht6
      clear q8 b8 B8 t8 N7 M7 B7 T7 b7 B6 hn6 b6 HN5 HB5 HT5 X7 ht6
      have HW7 := hide' hW7
      have HW8 := hide' hW8
      clear hW7 hW8
      go_upto_region 12 with fail
      rw [← HW7.out]
      clear HW7
      go_wp2_with fail
      rw [← HW8.out]
      clear HW8
      refine HQ.out.mono ?_
      rintro r w9 ⟨s9, ta9, tn9, tc9, ns9, rfl, hn9, ht9, b9⟩
      clear HQ hc0 hc1 hc2
      have B9 : Below w.heap.size w w9 := HB8.out.trans (b9.mono HB8.out.size)
      obtain ⟨W10, hW10⟩ : ∃ W, W = w9.alloc (.cells #[.slice ta9 tn9 tc9, .int .i64 4, .int .i64 60000] 28) := ⟨_, rfl⟩
      have b10 : Below w9.heap.size w9 W10 := by rw [hW10]; exact (Below.refl _ _).alloc (Nat.le_refl _) _
      have Y10 : W10.heap[w9.heap.size]? = some (.cells #[.slice ta9 tn9 tc9, .int .i64 4, .int .i64 60000] 28 (0, 0)) := by rw [hW10]; exact heap_alloc_new w9 _
      have X10 := (b10.block _ (Nat.lt_of_lt_of_le (lt_of_block HX8.out) b9.size)).trans ((b9.block _ (lt_of_block HX8.out)).trans HX8.out)
      have B10 : Below w.heap.size w W10 := B9.trans (b10.mono B9.size)
      have M10 := (HM8.out.below b9).below b10
      have N10 := hn9.below b10
      have hs910 := b10.size
      have hs89 := b9.size
      have hc0 : W10.cell? ⟨w6.heap.size, 0, none⟩ = some (.slice ta6 tn6 tc6) := by rw [Lib.cell_of_heap X10]; rfl
      have hc1 : W10.cell? ⟨w6.heap.size, 1, none⟩ = some (.int .i64 4) := by rw [Lib.cell_of_heap X10]; rfl
      have hc2 : W10.cell? ⟨w6.heap.size, 2, none⟩ = some (.int .i64 60000) := by rw [Lib.cell_of_heap X10]; rfl
      have q10 := new_ok B E _ ns6 (cpT true d) W10 M10 (HG.out.keep (B10.mono hB)) (Nat.le_trans hB B10.size) HT6.out (gd_cp true d hdl) (by rw [wt_cp]; omega) (by simp [cpT])
      have HQ := hide' q10
      have HW10 := hide' hW10
      have HB10 := hide' B10
      have HY10 := hide' Y10
      have HN10 := hide' N10
      have HT9 := hide' ht9
      clear q10 hW10 B10 Y10 X10 N10 M10 ht9 B9 b10 b9 hn9 HX8 HM8 HB8 HT6
      go_upto_region 13 with fail
      rw [← HW10.out]
      clear HW10
      go_wp2_with fail
      refine HQ.out.mono ?_
      rintro r w11 ⟨G1, rfl, hf1, b11⟩
      clear HQ hc0 hc1 hc2
      have B11 : Below w.heap.size w w11 := HB10.out.trans (b11.mono HB10.out.size)
      have Y11 := (b11.block _ (lt_of_block HY10.out)).trans HY10.out
      have hc0 : w11.cell? ⟨w9.heap.size, 0, none⟩ = some (.slice ta9 tn9 tc9) := by rw [Lib.cell_of_heap Y11]; rfl
      have hc1 : w11.cell? ⟨w9.heap.size, 1, none⟩ = some (.int .i64 4) := by rw [Lib.cell_of_heap Y11]; rfl
      have hc2 : w11.cell? ⟨w9.heap.size, 2, none⟩ = some (.int .i64 60000) := by rw [Lib.cell_of_heap Y11]; rfl
      have q11 := new_ok B E _ ns9 (mvT true d) w11 (HN10.out.below b11) (HG.out.keep (B11.mono hB)) (Nat.le_trans hB B11.size) HT9.out (gd_mv true d hdl) (by rw [wt_mv]; omega) (by simp [mvT])
      have HQ := hide' q11
      have HB11 := hide' B11
      have HF1 := hide' hf1
      clear q11 B11 Y11 hf1 b11 HY10 HN10 HB10 HT9
      go_wp2_with fail
      refine HQ.out.mono ?_
      rintro r w12 ⟨G2, rfl, hf2, b12⟩
      clear HQ hc0 hc1 hc2
      have B12 : Below w.heap.size w w12 := HB11.out.trans (b12.mono HB11.out.size)
      have f1 := HF1.out.below b12
      obtain ⟨e1, e2, e3⟩ := hr1
      obtain ⟨g1, g2, g3⟩ := hs1
      have q1 := fun W (hb : Below w12.heap.size w12 W) => Read_any B G1 E (cpT true d) 4 60000 (mk [100, 47, 97]) _ W (f1.below hb) ((HG.out.keep (B12.mono hB)).keep (hb.mono (Nat.le_trans hB B12.size))) (Nat.le_trans (Nat.le_trans hB B12.size) hb.size) (by rw [mk_size]; simp) (cpT_dat true d hdl)
      have q2 := fun W (hb : Below w12.heap.size w12 W) => Read_any B G1 E (cpT true d) 4 60000 (mk [97]) _ W (f1.below hb) ((HG.out.keep (B12.mono hB)).keep (hb.mono (Nat.le_trans hB B12.size))) (Nat.le_trans (Nat.le_trans hB B12.size) hb.size) (by rw [mk_size]; simp) (cpT_dat true d hdl)
      have q3 := fun W (hb : Below w12.heap.size w12 W) => Read_any B G2 E (mvT true d) 4 60000 (mk [100, 47, 97]) _ W (hf2.below hb) ((HG.out.keep (B12.mono hB)).keep (hb.mono (Nat.le_trans hB B12.size))) (Nat.le_trans (Nat.le_trans hB B12.size) hb.size) (by rw [mk_size]; simp) (mvT_dat true d hdl)
      have q4 := fun W (hb : Below w12.heap.size w12 W) => Stat_any B G2 E (mvT true d) 4 60000 (mk [97]) _ W (hf2.below hb) ((HG.out.keep (B12.mono hB)).keep (hb.mono (Nat.le_trans hB B12.size))) (Nat.le_trans (Nat.le_trans hB B12.size) hb.size) (by rw [mk_size]; simp)
      have q5 := fun W (hb : Below w12.heap.size w12 W) => Stat_any B G2 E (mvT true d) 4 60000 (mk [100, 47, 97]) _ W (hf2.below hb) ((HG.out.keep (B12.mono hB)).keep (hb.mono (Nat.le_trans hB B12.size))) (Nat.le_trans (Nat.le_trans hB B12.size) hb.size) (by rw [mk_size]; simp)
      have q6 := fun W (hb : Below w12.heap.size w12 W) => Stat_any B G1 E (cpT true d) 4 60000 (mk [100, 47, 97]) _ W (f1.below hb) ((HG.out.keep (B12.mono hB)).keep (hb.mono (Nat.le_trans hB B12.size))) (Nat.le_trans (Nat.le_trans hB B12.size) hb.size) (by rw [mk_size]; simp)
      simp only [tl_mk, show ([100, 47, 97] : Bs) = atOf true from rfl, e1, e2, e3, g1, g2, g3, statV] at q1 q2 q3 q4 q5 q6
      have Q1 := hide' q1
      have Q2 := hide' q2
      have Q3 := hide' q3
      have Q4 := hide' q4
      have Q5 := hide' q5
      have Q6 := hide' q6
      have HB12 := hide' B12
      clear q1 q2 q3 q4 q5 q6 f1 hf2 e1 e2 e3 g1 g2 g3 b12 HF1 HB11 B12
      have HL12 : Hid (Below w12.heap.size w12 w12) := hide' (Below.refl _ _)
      go_wp2_with (go_at_call 12; refine (lnum_any _ _).mono ?_; rintro r wn ⟨rfl, hwn⟩; obtain rfl := hwn.symm)
      refine (Q1.out _ HL12.out).mono ?_
      rintro r w13 ⟨b13, u13, er13, rfl, d13, rfl, _⟩
      obtain ⟨ua13, uc13, hu13⟩ := d13.len
      subst hu13
      have HL13 := hide' (HL12.out.trans (b13.mono HL12.out.size))
      have D13 := hide' d13.rds
      clear d13 b13
      go_wp2_with fail
      refine (Q2.out _ HL13.out).mono ?_
      rintro r w14 ⟨b14, u14, er14, rfl, d14, rfl, _⟩
      obtain ⟨ua14, uc14, hu14⟩ := d14.len
      subst hu14
      have HL14 := hide' (HL13.out.trans (b14.mono HL13.out.size))
      have D14 := hide' d14.rds
      have E14 := hide' (D13.out.below b14)
      clear d14 b14 D13
      go_wp2_with fail
      refine (Q3.out _ HL14.out).mono ?_
      rintro r w15 ⟨b15, u15, er15, rfl, d15, rfl, _⟩
      obtain ⟨ua15, uc15, hu15⟩ := d15.len
      subst hu15
      have HL15 := hide' (HL14.out.trans (b15.mono HL14.out.size))
      have cv1 := rds_str (E14.out.below b15)
      have cv2 := rds_str (D14.out.below b15)
      have cv3 := rds_str d15.rds
      have cv0 := rds_str (HD.out.below (HB12.out.trans (HL15.out.mono HB12.out.size)))
      have hfl0 : ∀ (W : World) (x y z : Int), (Instr.field 44 (.agg #[.int .i64 x, .int .i64 y, .int .i64 z]) 0).run Tryz.prog W = .ok (.int .i64 x) W := fun W x y z => by kernel_rfl
      have hfl1 : ∀ (W : World) (x y z : Int), (Instr.field 44 (.agg #[.int .i64 x, .int .i64 y, .int .i64 z]) 1).run Tryz.prog W = .ok (.int .i64 y) W := fun W x y z => by kernel_rfl
      clear d15 b15 D14 E14 Q1 Q2 Q3 HL12 HL13 HL14
      go_wp2_with fail
      refine (Q4.out _ HL15.out).mono ?_
      rintro r w16 ⟨rfl, b16⟩
      have HL16 := hide' (HL15.out.trans (b16.mono HL15.out.size))
      clear b16 cv0 cv1 cv2 cv3
      go_wp2_with fail
      refine (Q5.out _ HL16.out).mono ?_
      rintro r w17 ⟨rfl, b17⟩
      have HL17 := hide' (HL16.out.trans (b17.mono HL16.out.size))
      clear b17
      go_wp2_with fail
      refine (Q6.out _ HL17.out).mono ?_
      rintro r w18 ⟨rfl, b18⟩
      have HL18 := hide' (HL17.out.trans (b18.mono HL17.out.size))
      clear b18
      go_wp2
      go_ret
      exact ⟨rfl, HB12.out.trans (HL18.out.mono HB12.out.size)⟩
end Go.Proofs.YtbfchadcpokjoaaGreatDoor
