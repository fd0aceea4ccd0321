/- The contract of rule.Make at patterns. -/
import Derived.Test.YthkjinhnnilalaaGreatDoorMk2
namespace Go.Proofs.YthkjinhnnilalaaGreatDoor
open Go.RowKit Go.Shelf

theorem jn_ret {l : Nat} {J : Act → World → Prop} {Q : Exit → Act → World → Prop} {a : Act} {w : World} (h : Q .ret a w) : Exit.jump l J Q .ret a w := h
set_option maxRecDepth 100000 in
set_option maxHeartbeats 4000000 in
/-- parted, where there is no bar -/
theorem parted_none (L : List ByteArray) (b off cap : Nat) (w : World) (hl : L.length ≤ 100000) (hc : ∀ j, j < L.length → w.cell? ⟨b, off + j, none⟩ = some (.string (L.getD j ⟨#[]⟩))) (hn : ∀ j, j < L.length → ((L.getD j ⟨#[]⟩).toList == [124]) = false) :
    Calls Tryz.prog 29 #[.slice (some ⟨b, off, none⟩) L.length cap] w fun e w' => e = .returned (.tuple #[.slice (some ⟨b, off, none⟩) L.length cap, .slice none 0 0]) ∧ ∃ q, w' = w.drewN q := by
  go_enter Tryz.func29, Tryz.ntmps29
  go_wp2
  refine wp_scope_at 0 (JB w (.slice (some ⟨b, off, none⟩) L.length cap) L.length) (fun a _ => L.length - (intOf (a.tmps.getD 4 undef)).toNat) rfl ?_ ?_
  · rintro a' w' ⟨hw9, k, u5, u6, u7, u8, u9, u10, u11, u12, u13, u14, u15, u16, u17, u18, u19, u20, u21, u22, u23, u24, u25, u26, u27, hk, rfl⟩
    obtain rfl := hw9.symm
    by_cases hlt : k < L.length
    · have cc := hc k hlt
      have hx := hn k hlt
      generalize L.getD k ⟨#[]⟩ = x at cc hx
      have d1 : ((k : Int) == (L.length : Int)) = false := beq_eq_false_iff_ne.2 (by omega)
      clear hc hn
      go_wp2
      go_step3
      exact ⟨rfl, jb_intro (k := k + 1) (by omega), by simp [intOf]; omega⟩
    · obtain rfl : k = L.length := by omega
      have d1 : ((L.length : Int) == (L.length : Int)) = true := by simp
      clear hc hn
      go_wp2
      refine jn_ret ?_
      go_ret2
      exact ⟨rfl, 0, rfl⟩
  · intro hp
    go_wp2
    go_step3
    rename_i K1 hK1
    exact hK1 _ _ (hp _ _ (jb_intro (k := 0) (Nat.zero_le _)))
set_option maxRecDepth 100000 in
set_option maxHeartbeats 4000000 in
/-- Make, of patterns with two colons, no bar behind them -/
theorem make_pat (left right : ByteArray) (L0 R : List ByteArray) (w : World) (hls : left.size ≤ 100000) (hrs : right.size ≤ 100000) (hwl : wds (tl left) = L0) (hwr : wds (tl right) = R)
    (hL0 : 0 < L0.length) (hnl : ∀ x ∈ L0, nbr (tl x)) (hs : ∀ j, j < (L0.map nmB).length → Pt.opn (tl ((L0.map nmB).getD j ⟨#[]⟩)) = true) (hR : 0 < R.length) (hnr : ∀ x ∈ R, nbr (tl x)) (hnc : ∀ x ∈ R, Lib.indexByte (tl x) 58 = -1) (hbn : ∀ j, j < R.length → ((nmB (R.getD j ⟨#[]⟩)).toList == [124]) = false) :
    Calls Tryz.prog 14 #[.string left, .string right, .bool true] w fun e w' => (∃ b cap g3 cap3, e = .returned (.tuple #[.agg #[.slice (some ⟨b, 0, none⟩) L0.length cap, .slice (some ⟨g3, 0, none⟩) R.length cap3, .slice none 0 0, .bool false, .bool true, .bool true, .string ⟨#[]⟩, .slice none 0 0, .bool false, .string ⟨#[]⟩, .bool false], .slice none 0 0, .int .i64 0])) ∧ Below w.heap.size w w' := by
  have hl0 := wds_len (tl left)
  have hz0 := wds_size (tl left)
  have hlR := wds_len (tl right)
  have hzR := wds_size (tl right)
  rw [tl_len, hwl] at hl0
  rw [tl_len, hwl] at hz0
  rw [tl_len, hwr] at hlR
  rw [tl_len, hwr] at hzR
  have kG1 := fun w => grouped_plain left hls (by rw [hwl]; exact hnl) (by rw [hwl]; intro h; rw [h] at hL0; simp at hL0) w
  have kG2 := fun w => grouped_plain right hrs (by rw [hwr]; exact hnr) (by rw [hwr]; intro h; rw [h] at hR; simp at hR) w
  rw [hwl] at kG1
  rw [hwr] at kG2
  have hx := bx11_at w (.slice none 0 0) (.slice none 0 0) (.slice none 0 0) (.bool false) (.bool false) (.bool false) (.string ⟨#[]⟩) (.slice none 0 0) (.bool false) (.string ⟨#[]⟩) (.bool false)
  have hB : Below w.heap.size w (w.alloc (.cells #[.slice none 0 0, .slice none 0 0, .slice none 0 0, .bool false, .bool false, .bool false, .string ⟨#[]⟩, .slice none 0 0, .bool false, .string ⟨#[]⟩, .bool false] 29)) := (Below.refl _ w).alloc (Nat.le_refl _) _
  generalize hW : w.alloc (.cells #[.slice none 0 0, .slice none 0 0, .slice none 0 0, .bool false, .bool false, .bool false, .string ⟨#[]⟩, .slice none 0 0, .bool false, .string ⟨#[]⟩, .bool false] 29) = W at hx hB
  have HW := hide' hW
  clear hW
  go_enter Tryz.func14, Tryz.ntmps14
  go_upto_region 1 with fail
  rw [HW.out]
  go_wp2_with fail
  refine (kG1 _).mono ?_
  rintro e w1 ⟨v1, rfl, hv1, hb1⟩
  have hS1 := Tx.Strs.of_row hv1
  have kN1 := named_any L0 v1 w1 (by omega) (fun x hx => by have := hz0 x hx; omega) hS1
  clear kG1 hv1 hS1
  go_wp2_with fail
  refine kN1.mono ?_
  rintro e w2 ⟨lv, rfl, hlv, hb2⟩
  clear kN1
  go_wp2_with fail
  refine (kG2 _).mono ?_
  rintro e w3 ⟨rv, rfl, hrv, hb3⟩
  obtain ⟨b, cap, rfl, hcap, _, hbB, hbl, ⟨cur, hcur⟩, hbc⟩ := row_cells (L := L0.map nmB) (by rw [List.length_map]; exact hlv) (by intro h; rw [List.map_eq_nil_iff] at h; rw [h] at hL0; simp at hL0)
  obtain ⟨g, capR, rfl, hcapR, _, hgB, hgl, ⟨cur2, hcur2⟩, hgc⟩ := row_cells hrv (by intro h; rw [h] at hR; simp at hR)
  rw [List.length_map] at hcap hbc
  have hx3 := ((hx.below hb1).below hb2).below hb3
  have hB3 : Below w.heap.size w w3 := by
    have h9 := hB.trans (hb1.mono hB.size)
    have h10 := h9.trans (hb2.mono h9.size)
    exact h10.trans (hb3.mono h10.size)
  have hbl3 : b < w3.heap.size := Nat.lt_of_lt_of_le hbl hb3.size
  have hbc3 : ∀ j, j < L0.length → w3.cell? ⟨b, 0 + j, none⟩ = some (.string ((L0.map nmB).getD j ⟨#[]⟩)) := fun j hj => by rw [Nat.zero_add]; exact (hb3.cell (p := ⟨b, j, none⟩) hbl).trans (hbc j hj)
  have hgc3 : ∀ j, j < R.length → w3.cell? ⟨g, 0 + j, none⟩ = some (.string (R.getD j ⟨#[]⟩)) := fun j hj => by rw [Nat.zero_add]; exact hgc j hj
  have hne3 := hx3.lt
  clear hlv hrv hbc hgc hx hb1 hb2 hb3 kG2 hB hcur hcur2
  rw [List.length_map]
  go_upto_region 2 with fail
  have hD4 := dr_at w3 (.slice (some ⟨b, 0, none⟩) L0.length cap) (.slice (some ⟨g, 0, none⟩) R.length capR) ⟨#[]⟩ false
  have hx4 := hx3.alloc (.cells #[.slice (some ⟨b, 0, none⟩) L0.length cap, .slice (some ⟨g, 0, none⟩) R.length capR, .string ⟨#[]⟩, .bool false] 51)
  have hBa : Below w3.heap.size w3 (w3.alloc (.cells #[.slice (some ⟨b, 0, none⟩) L0.length cap, .slice (some ⟨g, 0, none⟩) R.length capR, .string ⟨#[]⟩, .bool false] 51)) := (Below.refl _ w3).alloc (Nat.le_refl _) _
  have hbD : b ≠ w3.heap.size := by omega
  have hgD : g ≠ w3.heap.size := by omega
  have hRD : w.heap.size ≠ w3.heap.size := by omega
  have hRlt : w.heap.size < w3.heap.size := by omega
  generalize hDD : w3.heap.size = D at hD4 hbD hgD hRD hRlt
  generalize hW4 : w3.alloc (.cells #[.slice (some ⟨b, 0, none⟩) L0.length cap, .slice (some ⟨g, 0, none⟩) R.length capR, .string ⟨#[]⟩, .bool false] 51) = W4 at hD4 hx4 hBa
  rw [hDD] at hBa
  have hB4 : Below w.heap.size w W4 := hB3.trans ((show Below w3.heap.size w3 W4 by rw [hDD]; exact hBa).mono hB3.size)
  have hBa' : Below w3.heap.size w3 W4 := by rw [hDD]; exact hBa
  have hbc4 : ∀ j, j < (L0.map nmB).length → W4.cell? ⟨b, 0 + j, none⟩ = some (.string ((L0.map nmB).getD j ⟨#[]⟩)) := fun j hj => (hBa'.cell (p := ⟨b, 0 + j, none⟩) hbl3).trans (hbc3 j (by rw [List.length_map] at hj; exact hj))
  have hgc4 : ∀ j, j < R.length → W4.cell? ⟨g, 0 + j, none⟩ = some (.string (R.getD j ⟨#[]⟩)) := fun j hj => (hBa'.cell (p := ⟨g, 0 + j, none⟩) hgl).trans (hgc3 j hj)
  have hb4 : b < W4.heap.size := Nat.lt_of_lt_of_le hbl3 hBa'.size
  have hg4 : g < W4.heap.size := Nat.lt_of_lt_of_le hgl hBa'.size
  have hD4' : Dr W4 D (.slice (some ⟨b, 0, none⟩) (L0.map nmB).length cap) (.slice (some ⟨g, 0, none⟩) R.length capR) ⟨#[]⟩ false := by rw [List.length_map]; exact hD4
  have kS := settle_pat D (L0.map nmB) R b cap g capR W4 hD4' (by rw [List.length_map]; exact hL0) (by rw [List.length_map]; omega) hb4 hbD hs hbc4 (by omega) (fun x hx => ⟨by have := hzR x hx; omega, hnr x hx⟩) hgc4 hnc
  rw [List.length_map] at kS
  have HD := hide' hDD
  have HW4 := hide' hW4
  have HGC := hide' hgc4
  have HZR := hide' hzR
  have hRl : R.length ≤ 100000 := by omega
  clear hDD hW4 hbc3 hgc3 hbc4 hgc4 hBa hBa' hB3 hx3 hne3 hD4 hD4' hnl hnr hwl hwr hzR hz0 hs hnc
  go_wp2_with fail
  refine kS.mono ?_
  rintro e w5 ⟨rfl, hD5, hT5⟩
  have hx5 : Bx11 w5 w.heap.size _ _ _ _ _ _ _ _ _ _ _ := (hT5.block _ hx4.lt hRD).trans hx4
  have hB5 : Below w.heap.size w w5 := hB4.trans (hT5.below hB4.size (fun i hi => by rw [hi]; omega))
  have hgc5 : ∀ j, j < R.length → w5.cell? ⟨g, 0 + j, none⟩ = some (.string (R.getD j ⟨#[]⟩)) := fun j hj => (cell_of_block (p := ⟨g, 0 + j, none⟩) (hT5.block g hg4 hgD)).trans (HGC.out j hj)
  have hg5 : g < w5.heap.size := Nat.lt_of_lt_of_le hg4 hT5.size
  have d0 := hD5.c0
  have d1 := hD5.c1
  have d2 := hD5.c2
  have d3 := hD5.c3
  have HB5 := hide' hB5
  have HG5 := hide' hgc5
  clear hT5 hx4 hB4 hgc5 kS hB5
  go_upto_region 6 with fail
  have hA6 := bx11_at w5 (.slice (some ⟨b, 0, none⟩) L0.length cap) (.slice none 0 0) (.slice none 0 0) (.bool false) (.bool true) (.bool false) (.string ⟨#[]⟩) (.slice none 0 0) (.bool false) (.string ⟨#[]⟩) (.bool false)
  have hx6 := hx5.alloc (.cells #[.slice (some ⟨b, 0, none⟩) L0.length cap, .slice none 0 0, .slice none 0 0, .bool false, .bool true, .bool false, .string ⟨#[]⟩, .slice none 0 0, .bool false, .string ⟨#[]⟩, .bool false] 29)
  have hBa6 : Below w5.heap.size w5 (w5.alloc (.cells #[.slice (some ⟨b, 0, none⟩) L0.length cap, .slice none 0 0, .slice none 0 0, .bool false, .bool true, .bool false, .string ⟨#[]⟩, .slice none 0 0, .bool false, .string ⟨#[]⟩, .bool false] 29)) := (Below.refl _ w5).alloc (Nat.le_refl _) _
  have hD6 := hD5.below hBa6
  have hDA : D < w5.heap.size := hD5.lt
  have hRA : w.heap.size < w5.heap.size := hx5.lt
  have hB6 := HB5.out.trans (hBa6.mono HB5.out.size)
  generalize hW6 : w5.alloc (.cells #[.slice (some ⟨b, 0, none⟩) L0.length cap, .slice none 0 0, .slice none 0 0, .bool false, .bool true, .bool false, .string ⟨#[]⟩, .slice none 0 0, .bool false, .string ⟨#[]⟩, .bool false] 29) = W6 at hA6 hx6 hBa6 hD6 hB6
  have hgc6 : ∀ j, j < R.length → W6.cell? ⟨g, 0 + j, none⟩ = some (.string (R.getD j ⟨#[]⟩)) := fun j hj => (hBa6.cell (p := ⟨g, 0 + j, none⟩) hg5).trans (HG5.out j hj)
  have kN2 := named_some R g 0 capR W6 hRl (Nat.lt_of_lt_of_le hg5 hBa6.size) (fun x hx => by have := HZR.out x hx; omega) hgc6
  generalize hAA : w5.heap.size = A at hA6 hDA hRA
  have HW6 := hide' hW6
  have HAA := hide' hAA
  have d16 := hD6.c1
  clear hW6 hAA hgc6 hBa6 hD5 hx5 d0 d1 d2 d3
  go_wp2_with fail
  refine kN2.mono ?_
  rintro e w7 ⟨vn, rfl, hvn, hb7⟩
  rw [show R.length = (R.map nmB).length from (List.length_map ..).symm] at hvn
  obtain ⟨g3, cap3, rfl, hcap3, _, _, hgl3, _, hgc3⟩ := row_cells hvn (by intro h; rw [List.map_eq_nil_iff] at h; rw [h] at hR; simp at hR)
  have hgd : ∀ j, j < R.length → (R.map nmB).getD j ⟨#[]⟩ = nmB (R.getD j ⟨#[]⟩) := fun j hj => by
    rw [List.getD_eq_getElem?_getD, List.getD_eq_getElem?_getD, List.getElem?_map, List.getElem?_eq_getElem hj]
    rfl
  have kP := parted_none (R.map nmB) g3 0 cap3 w7 (by rw [List.length_map]; exact hRl) (fun j hj => by rw [Nat.zero_add]; exact hgc3 j hj) (fun j hj => by rw [List.length_map] at hj; rw [hgd j hj]; exact hbn j hj)
  rw [List.length_map] at kP
  have HVN := hide' hvn
  rw [List.length_map]
  clear hgc3 hgd hvn hbn kN2
  go_wp2_with fail
  refine kP.mono ?_
  rintro e w8 ⟨rfl, q8, hw8⟩
  have hb8 : Below w7.heap.size w7 w8 := by rw [hw8]; exact below_drewn q8
  have hA8 := (hA6.below hb7).below hb8
  have hx8 := (hx6.below hb7).below hb8
  have hD8 := (hD6.below hb7).below hb8
  have hB7 := hB6.trans (hb7.mono hB6.size)
  have hB8 := hB7.trans (hb8.mono hB7.size)
  have ac0 := hA8.c0
  have af0 := hA8.fz 0
  have ac1 := hA8.c1
  have af1 := hA8.fz 1
  have ac2 := hA8.c2
  have af2 := hA8.fz 2
  have ac3 := hA8.c3
  have af3 := hA8.fz 3
  have ac4 := hA8.c4
  have af4 := hA8.fz 4
  have ac5 := hA8.c5
  have af5 := hA8.fz 5
  have ac6 := hA8.c6
  have af6 := hA8.fz 6
  have ac7 := hA8.c7
  have af7 := hA8.fz 7
  have ac8 := hA8.c8
  have af8 := hA8.fz 8
  have ac9 := hA8.c9
  have af9 := hA8.fz 9
  have ac10 := hA8.c10
  have af10 := hA8.fz 10
  have d83 := hD8.c3
  have HA8 := hide' hA8
  have HX8 := hide' hx8
  have HD8 := hide' hD8
  have HB8 := hide' hB8
  clear hA8 hx8 hD8 hB8 hw8 hb8 hB7 kP hA6 hx6 hD6 hb7 hB6 d16
  go_upto_region 9 with fail
  have hRne : w.heap.size ≠ A := by omega
  have hDne : D ≠ A := by omega
  have hA9 : Bx11 (((w8.setCell ⟨A, 1, none⟩ (.slice (some ⟨g3, 0, none⟩) R.length cap3)).setCell ⟨A, 2, none⟩ (.slice none 0 0)).setCell ⟨A, 5, none⟩ (.bool true)) A (.slice (some ⟨b, 0, none⟩) L0.length cap) (.slice (some ⟨g3, 0, none⟩) R.length cap3) (.slice none 0 0) (.bool false) (.bool true) (.bool true) (.string ⟨#[]⟩) (.slice none 0 0) (.bool false) (.string ⟨#[]⟩) (.bool false) := by
    have h9 := set_block (set_block (set_block HA8.out 1 (.slice (some ⟨g3, 0, none⟩) R.length cap3)) 2 (.slice none 0 0)) 5 (.bool true)
    exact h9.trans (by simp)
  have hx9 := ((HX8.out.other hRne 1 (.slice (some ⟨g3, 0, none⟩) R.length cap3)).other hRne 2 (.slice none 0 0)).other hRne 5 (.bool true)
  have hRA' : w.heap.size ≤ A := by omega
  have hB9 := ((HB8.out.setCell (p := ⟨A, 1, none⟩) hRA' (.slice (some ⟨g3, 0, none⟩) R.length cap3)).setCell (p := ⟨A, 2, none⟩) hRA' (.slice none 0 0)).setCell (p := ⟨A, 5, none⟩) hRA' (.bool true)
  generalize hW9 : (((w8.setCell ⟨A, 1, none⟩ (.slice (some ⟨g3, 0, none⟩) R.length cap3)).setCell ⟨A, 2, none⟩ (.slice none 0 0)).setCell ⟨A, 5, none⟩ (.bool true)) = W9 at hA9 hx9 hB9
  have HW9 := hide' hW9
  clear hW9 ac0 af0 ac1 af1 ac2 af2 ac3 af3 ac4 af4 ac5 af5 ac6 af6 ac7 af7 ac8 af8 ac9 af9 ac10 af10 d83
  have ac0 := hA9.c0
  have af0 := hA9.fz 0
  have ac1 := hA9.c1
  have af1 := hA9.fz 1
  have ac2 := hA9.c2
  have af2 := hA9.fz 2
  have ac3 := hA9.c3
  have af3 := hA9.fz 3
  have ac4 := hA9.c4
  have af4 := hA9.fz 4
  have ac5 := hA9.c5
  have af5 := hA9.fz 5
  have ac6 := hA9.c6
  have af6 := hA9.fz 6
  have ac7 := hA9.c7
  have af7 := hA9.fz 7
  have ac8 := hA9.c8
  have af8 := hA9.fz 8
  have ac9 := hA9.c9
  have af9 := hA9.fz 9
  have ac10 := hA9.c10
  have af10 := hA9.fz 10
  have xc0 := hx9.c0
  have xf0 := hx9.fz 0
  have xc1 := hx9.c1
  have xf1 := hx9.fz 1
  have xc2 := hx9.c2
  have xf2 := hx9.fz 2
  have xc3 := hx9.c3
  have xf3 := hx9.fz 3
  have xc4 := hx9.c4
  have xf4 := hx9.fz 4
  have xc5 := hx9.c5
  have xf5 := hx9.fz 5
  have xc6 := hx9.c6
  have xf6 := hx9.fz 6
  have xc7 := hx9.c7
  have xf7 := hx9.fz 7
  have xc8 := hx9.c8
  have xf8 := hx9.fz 8
  have xc9 := hx9.c9
  have xf9 := hx9.fz 9
  have xc10 := hx9.c10
  have xf10 := hx9.fz 10
  have HX9 := hide' hx9
  have HB9 := hide' hB9
  clear hA9 hx9 hB9
  go_wp2
  have hxf := HX9.out.set (v0 := (.slice (some ⟨b, 0, none⟩) L0.length cap)) (v1 := (.slice (some ⟨g3, 0, none⟩) R.length cap3)) (v2 := (.slice none 0 0)) (v3 := (.bool false)) (v4 := (.bool true)) (v5 := (.bool true)) (v6 := (.string ⟨#[]⟩)) (v7 := (.slice none 0 0)) (v8 := (.bool false)) (v9 := (.string ⟨#[]⟩)) (v10 := (.bool false))
  have e0 := hxf.c0
  have e1 := hxf.c1
  have e2 := hxf.c2
  have e3 := hxf.c3
  have e4 := hxf.c4
  have e5 := hxf.c5
  have e6 := hxf.c6
  have e7 := hxf.c7
  have e8 := hxf.c8
  have e9 := hxf.c9
  have e10 := hxf.c10
  refine bodyPost_ret (by simp [results, Tryz.results14, go_sem, e0, e1, e2, e3, e4, e5, e6, e7, e8, e9, e10]; rfl) rfl ?_
  exact ⟨⟨_, _, _, _, rfl⟩, put11_below HB9.out (Nat.le_refl _) _ _ _ _ _ _ _ _ _ _ _⟩
end Go.Proofs.YthkjinhnnilalaaGreatDoor
