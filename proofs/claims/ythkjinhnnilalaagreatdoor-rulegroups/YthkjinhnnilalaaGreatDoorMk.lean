/- The contract of rule.Make at a static pattern that is right. -/
import Derived.Test.YthkjinhnnilalaaGreatDoorSet
namespace Go.Proofs.YthkjinhnnilalaaGreatDoor
open Go.RowKit Go.Shelf

def Bx11 (w : World) (b : Nat) (v0 v1 v2 v3 v4 v5 v6 v7 v8 v9 v10 : Value) : Prop := w.heap[b]? = some (.cells #[v0, v1, v2, v3, v4, v5, v6, v7, v8, v9, v10] 29 (0, 0))
section
variable {w : World} {b : Nat} {v0 v1 v2 v3 v4 v5 v6 v7 v8 v9 v10 : Value}
theorem Bx11.c0 (x : Bx11 w b v0 v1 v2 v3 v4 v5 v6 v7 v8 v9 v10) : w.cell? ⟨b, 0, none⟩ = some v0 := by unfold Bx11 at x; rw [Lib.cell_of_heap x]; rfl
theorem Bx11.c1 (x : Bx11 w b v0 v1 v2 v3 v4 v5 v6 v7 v8 v9 v10) : w.cell? ⟨b, 1, none⟩ = some v1 := by unfold Bx11 at x; rw [Lib.cell_of_heap x]; rfl
theorem Bx11.c2 (x : Bx11 w b v0 v1 v2 v3 v4 v5 v6 v7 v8 v9 v10) : w.cell? ⟨b, 2, none⟩ = some v2 := by unfold Bx11 at x; rw [Lib.cell_of_heap x]; rfl
theorem Bx11.c3 (x : Bx11 w b v0 v1 v2 v3 v4 v5 v6 v7 v8 v9 v10) : w.cell? ⟨b, 3, none⟩ = some v3 := by unfold Bx11 at x; rw [Lib.cell_of_heap x]; rfl
theorem Bx11.c4 (x : Bx11 w b v0 v1 v2 v3 v4 v5 v6 v7 v8 v9 v10) : w.cell? ⟨b, 4, none⟩ = some v4 := by unfold Bx11 at x; rw [Lib.cell_of_heap x]; rfl
theorem Bx11.c5 (x : Bx11 w b v0 v1 v2 v3 v4 v5 v6 v7 v8 v9 v10) : w.cell? ⟨b, 5, none⟩ = some v5 := by unfold Bx11 at x; rw [Lib.cell_of_heap x]; rfl
theorem Bx11.c6 (x : Bx11 w b v0 v1 v2 v3 v4 v5 v6 v7 v8 v9 v10) : w.cell? ⟨b, 6, none⟩ = some v6 := by unfold Bx11 at x; rw [Lib.cell_of_heap x]; rfl
theorem Bx11.c7 (x : Bx11 w b v0 v1 v2 v3 v4 v5 v6 v7 v8 v9 v10) : w.cell? ⟨b, 7, none⟩ = some v7 := by unfold Bx11 at x; rw [Lib.cell_of_heap x]; rfl
theorem Bx11.c8 (x : Bx11 w b v0 v1 v2 v3 v4 v5 v6 v7 v8 v9 v10) : w.cell? ⟨b, 8, none⟩ = some v8 := by unfold Bx11 at x; rw [Lib.cell_of_heap x]; rfl
theorem Bx11.c9 (x : Bx11 w b v0 v1 v2 v3 v4 v5 v6 v7 v8 v9 v10) : w.cell? ⟨b, 9, none⟩ = some v9 := by unfold Bx11 at x; rw [Lib.cell_of_heap x]; rfl
theorem Bx11.c10 (x : Bx11 w b v0 v1 v2 v3 v4 v5 v6 v7 v8 v9 v10) : w.cell? ⟨b, 10, none⟩ = some v10 := by unfold Bx11 at x; rw [Lib.cell_of_heap x]; rfl
theorem Bx11.fz (x : Bx11 w b v0 v1 v2 v3 v4 v5 v6 v7 v8 v9 v10) (j : Nat) : w.frozen? ⟨b, j, none⟩ = false := Lib.frozen_of_heap x j
theorem Bx11.lt (x : Bx11 w b v0 v1 v2 v3 v4 v5 v6 v7 v8 v9 v10) : b < w.heap.size := lt_of_block x
theorem Bx11.below {w' : World} (x : Bx11 w b v0 v1 v2 v3 v4 v5 v6 v7 v8 v9 v10) (hb : Below w.heap.size w w') : Bx11 w' b v0 v1 v2 v3 v4 v5 v6 v7 v8 v9 v10 := (hb.block b x.lt).trans x
theorem Bx11.alloc (x : Bx11 w b v0 v1 v2 v3 v4 v5 v6 v7 v8 v9 v10) (o : Obj) : Bx11 (w.alloc o) b v0 v1 v2 v3 v4 v5 v6 v7 v8 v9 v10 := x.below ((Below.refl _ w).alloc (Nat.le_refl _) o)
theorem Bx11.other {A : Nat} (x : Bx11 w b v0 v1 v2 v3 v4 v5 v6 v7 v8 v9 v10) (hne : b ≠ A) (j : Nat) (v : Value) : Bx11 (w.setCell ⟨A, j, none⟩ v) b v0 v1 v2 v3 v4 v5 v6 v7 v8 v9 v10 := (set_other _ _ _ _ hne).trans x
end
abbrev put11 (W : World) (b : Nat) (v0 v1 v2 v3 v4 v5 v6 v7 v8 v9 v10 : Value) : World := ((((((((((W.setCell ⟨b, 0, none⟩ v0).setCell ⟨b, 1, none⟩ v1).setCell ⟨b, 2, none⟩ v2).setCell ⟨b, 3, none⟩ v3).setCell ⟨b, 4, none⟩ v4).setCell ⟨b, 5, none⟩ v5).setCell ⟨b, 6, none⟩ v6).setCell ⟨b, 7, none⟩ v7).setCell ⟨b, 8, none⟩ v8).setCell ⟨b, 9, none⟩ v9).setCell ⟨b, 10, none⟩ v10
theorem Bx11.set {w : World} {b : Nat} {u0 u1 u2 u3 u4 u5 u6 u7 u8 u9 u10 v0 v1 v2 v3 v4 v5 v6 v7 v8 v9 v10 : Value} (x : Bx11 w b u0 u1 u2 u3 u4 u5 u6 u7 u8 u9 u10) : Bx11 (put11 w b v0 v1 v2 v3 v4 v5 v6 v7 v8 v9 v10) b v0 v1 v2 v3 v4 v5 v6 v7 v8 v9 v10 := by
  unfold Bx11 at x
  have h0 := set_block x 0 v0
  have h1 := set_block h0 1 v1
  have h2 := set_block h1 2 v2
  have h3 := set_block h2 3 v3
  have h4 := set_block h3 4 v4
  have h5 := set_block h4 5 v5
  have h6 := set_block h5 6 v6
  have h7 := set_block h6 7 v7
  have h8 := set_block h7 8 v8
  have h9 := set_block h8 9 v9
  have h10 := set_block h9 10 v10
  exact h10.trans (by simp)
theorem put11_below {B : Nat} {w W : World} (h0 : Below B w W) {b : Nat} (hb : B ≤ b) (v0 v1 v2 v3 v4 v5 v6 v7 v8 v9 v10 : Value) : Below B w (put11 W b v0 v1 v2 v3 v4 v5 v6 v7 v8 v9 v10) :=
  ((((((((((h0.setCell hb _).setCell hb _).setCell hb _).setCell hb _).setCell hb _).setCell hb _).setCell hb _).setCell hb _).setCell hb _).setCell hb _).setCell hb _
theorem bx11_at (w : World) (v0 v1 v2 v3 v4 v5 v6 v7 v8 v9 v10 : Value) : Bx11 (w.alloc (.cells #[v0, v1, v2, v3, v4, v5, v6, v7, v8, v9, v10] 29)) w.heap.size v0 v1 v2 v3 v4 v5 v6 v7 v8 v9 v10 := heap_alloc_new w _
/-- what the last region reads -/
structure MkC (A D : Nat) (lv v0 v1 v2 v3 v4 v5 v6 v7 v8 v9 v10 : Value) (w : World) : Prop where
  a : Bx11 w A v0 v1 v2 v3 v4 v5 v6 v7 v8 v9 v10
  d : w.cell? ⟨D, 0, none⟩ = some lv
theorem dr_at (w : World) (l r : Value) (s : ByteArray) (p : Bool) : Dr (w.alloc (.cells #[l, r, .string s, .bool p] 51)) w.heap.size l r s p := heap_alloc_new w _
set_option maxRecDepth 100000 in
set_option maxHeartbeats 4000000 in
/-- Make, of a static pattern that is right, its colon by itself behind one word, a bar behind i words that are none -/
theorem make_static (left right : ByteArray) (L0 R R2 : List ByteArray) (st : ByteArray) (i : Nat) (w : World) (hR2 : R.drop 2 = R2) (hls : left.size ≤ 100000) (hrs : right.size ≤ 100000) (hwl : wds (tl left) = L0) (hwr : wds (tl right) = R)
    (hL0 : 0 < L0.length) (hnl : ∀ x ∈ L0, nbr (tl x)) (hs : ∀ x ∈ L0.map nmB, x.size ≤ 1000000 ∧ (Pt.mt (tl st) (tl x)).2 = true ∧ Pt.opn (tl x) = false)
    (hR : 2 < R.length) (hnr : ∀ x ∈ R, nbr (tl x)) (h1 : R.getD 1 ⟨#[]⟩ = ⟨#[58]⟩) (h0 : Lib.indexByte (tl (R.getD 0 ⟨#[]⟩)) 58 = -1) (hst : nmB (R.getD 0 ⟨#[]⟩) = st) (hss : st.size ≤ 1000000) (ho : Pt.opn (tl st) = true)
    (hil : i + 1 < R2.length) (hib : nmB (R2.getD i ⟨#[]⟩) = bar) (hbn : ∀ j, j < i → ((nmB (R2.getD j ⟨#[]⟩)).toList == [124]) = false) :
    Calls Tryz.prog 14 #[.string left, .string right, .bool false] w fun e w' => (∃ b cap g3 a1 c1 a2 c2, e = .returned (.tuple #[.agg #[.slice (some ⟨b, 0, none⟩) L0.length cap, .slice (some ⟨g3, 0, none⟩) i i, .slice a1 (R2.length - (i + 1)) c1, .bool false, .bool false, .bool false, .string st, .slice none 0 0, .bool false, .string ⟨#[]⟩, .bool false], .slice a2 L0.length c2, .int .i64 0])) ∧ Below w.heap.size w w' := by
  have hl0 := wds_len (tl left)
  have hz0 := wds_size (tl left)
  have hlR := wds_len (tl right)
  have hzR := wds_size (tl right)
  rw [tl_len, hwl] at hl0
  rw [tl_len, hwl] at hz0
  rw [tl_len, hwr] at hlR
  rw [tl_len, hwr] at hzR
  have kG1 := fun w => grouped_plain left hls (by rw [hwl]; exact hnl) (by rw [hwl]; intro h; rw [h] at hL0; simp at hL0) w
  have kG2 := fun w => grouped_plain right hrs (by rw [hwr]; exact hnr) (by rw [hwr]; intro h; rw [h] at hR; simp at hR) w
  rw [hwl] at kG1
  rw [hwr] at kG2
  have hx := bx11_at w (.slice none 0 0) (.slice none 0 0) (.slice none 0 0) (.bool false) (.bool false) (.bool false) (.string ⟨#[]⟩) (.slice none 0 0) (.bool false) (.string ⟨#[]⟩) (.bool false)
  have hB : Below w.heap.size w (w.alloc (.cells #[.slice none 0 0, .slice none 0 0, .slice none 0 0, .bool false, .bool false, .bool false, .string ⟨#[]⟩, .slice none 0 0, .bool false, .string ⟨#[]⟩, .bool false] 29)) := (Below.refl _ w).alloc (Nat.le_refl _) _
  generalize hW : w.alloc (.cells #[.slice none 0 0, .slice none 0 0, .slice none 0 0, .bool false, .bool false, .bool false, .string ⟨#[]⟩, .slice none 0 0, .bool false, .string ⟨#[]⟩, .bool false] 29) = W at hx hB
  have HW := hide' hW
  clear hW
  go_enter Tryz.func14, Tryz.ntmps14
  go_upto_region 1 with fail
  rw [HW.out]
  go_wp2_with fail
  refine (kG1 _).mono ?_
  rintro e w1 ⟨v1, rfl, hv1, hb1⟩
  have hS1 := Tx.Strs.of_row hv1
  have kN1 := named_any L0 v1 w1 (by omega) (fun x hx => by have := hz0 x hx; omega) hS1
  clear kG1 hv1 hS1
  go_wp2_with fail
  refine kN1.mono ?_
  rintro e w2 ⟨lv, rfl, hlv, hb2⟩
  clear kN1
  go_wp2_with fail
  refine (kG2 _).mono ?_
  rintro e w3 ⟨rv, rfl, hrv, hb3⟩
  obtain ⟨b, cap, rfl, hcap, _, hbB, hbl, ⟨cur, hcur⟩, hbc⟩ := row_cells (L := L0.map nmB) (by rw [List.length_map]; exact hlv) (by intro h; rw [List.map_eq_nil_iff] at h; rw [h] at hL0; simp at hL0)
  obtain ⟨g, capR, rfl, hcapR, _, hgB, hgl, ⟨cur2, hcur2⟩, hgc⟩ := row_cells hrv (by intro h; rw [h] at hR; simp at hR)
  rw [List.length_map] at hcap hbc
  have hx3 := ((hx.below hb1).below hb2).below hb3
  have hB3 : Below w.heap.size w w3 := by
    have h9 := hB.trans (hb1.mono hB.size)
    have h10 := h9.trans (hb2.mono h9.size)
    exact h10.trans (hb3.mono h10.size)
  have hbl3 : b < w3.heap.size := Nat.lt_of_lt_of_le hbl hb3.size
  have hbc3 : ∀ j, j < L0.length → w3.cell? ⟨b, 0 + j, none⟩ = some (.string ((L0.map nmB).getD j ⟨#[]⟩)) := fun j hj => by rw [Nat.zero_add]; exact (hb3.cell (p := ⟨b, j, none⟩) hbl).trans (hbc j hj)
  have hgc3 : ∀ j, j < R.length → w3.cell? ⟨g, 0 + j, none⟩ = some (.string (R.getD j ⟨#[]⟩)) := fun j hj => by rw [Nat.zero_add]; exact hgc j hj
  have hne3 := hx3.lt
  clear hlv hrv hbc hgc hx hb1 hb2 hb3 kG2 hB hcur hcur2
  rw [List.length_map]
  go_upto_region 2 with fail
  have hD4 := dr_at w3 (.slice (some ⟨b, 0, none⟩) L0.length cap) (.slice (some ⟨g, 0, none⟩) R.length capR) ⟨#[]⟩ false
  have hx4 := hx3.alloc (.cells #[.slice (some ⟨b, 0, none⟩) L0.length cap, .slice (some ⟨g, 0, none⟩) R.length capR, .string ⟨#[]⟩, .bool false] 51)
  have hBa : Below w3.heap.size w3 (w3.alloc (.cells #[.slice (some ⟨b, 0, none⟩) L0.length cap, .slice (some ⟨g, 0, none⟩) R.length capR, .string ⟨#[]⟩, .bool false] 51)) := (Below.refl _ w3).alloc (Nat.le_refl _) _
  have hbD : b ≠ w3.heap.size := by omega
  have hgD : g ≠ w3.heap.size := by omega
  have hRD : w.heap.size ≠ w3.heap.size := by omega
  have hRlt : w.heap.size < w3.heap.size := by omega
  generalize hDD : w3.heap.size = D at hD4 hbD hgD hRD hRlt
  generalize hW4 : w3.alloc (.cells #[.slice (some ⟨b, 0, none⟩) L0.length cap, .slice (some ⟨g, 0, none⟩) R.length capR, .string ⟨#[]⟩, .bool false] 51) = W4 at hD4 hx4 hBa
  rw [hDD] at hBa
  have hB4 : Below w.heap.size w W4 := hB3.trans ((show Below w3.heap.size w3 W4 by rw [hDD]; exact hBa).mono hB3.size)
  have hBa' : Below w3.heap.size w3 W4 := by rw [hDD]; exact hBa
  have hbc4 : ∀ j, j < (L0.map nmB).length → W4.cell? ⟨b, 0 + j, none⟩ = some (.string ((L0.map nmB).getD j ⟨#[]⟩)) := fun j hj => (hBa'.cell (p := ⟨b, 0 + j, none⟩) hbl3).trans (hbc3 j (by rw [List.length_map] at hj; exact hj))
  have hgc4 : ∀ j, j < R.length → W4.cell? ⟨g, 0 + j, none⟩ = some (.string (R.getD j ⟨#[]⟩)) := fun j hj => (hBa'.cell (p := ⟨g, 0 + j, none⟩) hgl).trans (hgc3 j hj)
  have hb4 : b < W4.heap.size := Nat.lt_of_lt_of_le hbl3 hBa'.size
  have hg4 : g < W4.heap.size := Nat.lt_of_lt_of_le hgl hBa'.size
  have hD4' : Dr W4 D (.slice (some ⟨b, 0, none⟩) (L0.map nmB).length cap) (.slice (some ⟨g, 0, none⟩) R.length capR) ⟨#[]⟩ false := by rw [List.length_map]; exact hD4
  have kS := settle_ok D (L0.map nmB) R b cap g capR st W4 hD4' (by rw [List.length_map]; exact hL0) (by rw [List.length_map]; omega) hb4 hbD hs hbc4 hR (by omega) hcapR hg4 hgD (fun x hx => ⟨by have := hzR x hx; omega, hnr x hx⟩) hgc4 h1 h0 hst hss ho
  rw [List.length_map] at kS
  have HD := hide' hDD
  have HW4 := hide' hW4
  have HBC := hide' hbc4
  have HZR := hide' hzR
  have HZ0 := hide' hz0
  clear hDD hW4 hbc3 hgc3 hbc4 hgc4 hBa hBa' hB3 hx3 hne3 hD4 hD4' h1 h0 hst ho hss hnl hnr hwl hwr hzR hz0 hs
  go_wp2_with fail
  refine kS.mono ?_
  rintro e w5 ⟨rfl, vb, hD5, hvb, hT5⟩
  rw [hR2, show R.length - 2 = R2.length by rw [← hR2]; simp] at hvb
  have hsub : ∀ x ∈ R2, x ∈ R := fun x hx => List.mem_of_mem_drop (by rw [hR2]; exact hx)
  have hR2l : R2.length ≤ 100000 := by rw [← hR2]; simp; omega
  obtain ⟨g2, cap2, rfl, hcap2, _, _, hgl2, _, hgc2⟩ := row_cells hvb (by intro h; rw [h] at hil; simp at hil)
  have hx5 : Bx11 w5 w.heap.size _ _ _ _ _ _ _ _ _ _ _ := (hT5.block _ hx4.lt hRD).trans hx4
  have hB5 : Below w.heap.size w w5 := hB4.trans (hT5.below hB4.size (fun i hi => by rw [hi]; omega))
  have hbc5 : ∀ j, j < (L0.map nmB).length → w5.cell? ⟨b, 0 + j, none⟩ = some (.string ((L0.map nmB).getD j ⟨#[]⟩)) := fun j hj => (cell_of_block (p := ⟨b, 0 + j, none⟩) (hT5.block b hb4 hbD)).trans (HBC.out j hj)
  have hb5 : b < w5.heap.size := Nat.lt_of_lt_of_le hb4 hT5.size
  have d0 := hD5.c0
  have d1 := hD5.c1
  have d2 := hD5.c2
  have d3 := hD5.c3
  have HB5 := hide' hB5
  have HBC5 := hide' hbc5
  have HG2 := hide' hgc2
  clear hvb hT5 hx4 hB4 hbc5 hgc2 kS hB5
  go_upto_region 6 with fail
  have hA6 := bx11_at w5 (.slice (some ⟨b, 0, none⟩) L0.length cap) (.slice none 0 0) (.slice none 0 0) (.bool false) (.bool false) (.bool false) (.string st) (.slice none 0 0) (.bool false) (.string ⟨#[]⟩) (.bool false)
  have hx6 := hx5.alloc (.cells #[.slice (some ⟨b, 0, none⟩) L0.length cap, .slice none 0 0, .slice none 0 0, .bool false, .bool false, .bool false, .string st, .slice none 0 0, .bool false, .string ⟨#[]⟩, .bool false] 29)
  have hBa6 : Below w5.heap.size w5 (w5.alloc (.cells #[.slice (some ⟨b, 0, none⟩) L0.length cap, .slice none 0 0, .slice none 0 0, .bool false, .bool false, .bool false, .string st, .slice none 0 0, .bool false, .string ⟨#[]⟩, .bool false] 29)) := (Below.refl _ w5).alloc (Nat.le_refl _) _
  have hD6 := hD5.below hBa6
  have hDA : D < w5.heap.size := hD5.lt
  have hRA : w.heap.size < w5.heap.size := hx5.lt
  have hB6 := HB5.out.trans (hBa6.mono HB5.out.size)
  generalize hW6 : w5.alloc (.cells #[.slice (some ⟨b, 0, none⟩) L0.length cap, .slice none 0 0, .slice none 0 0, .bool false, .bool false, .bool false, .string st, .slice none 0 0, .bool false, .string ⟨#[]⟩, .bool false] 29) = W6 at hA6 hx6 hBa6 hD6 hB6
  have hgc6 : ∀ j, j < R2.length → W6.cell? ⟨g2, 0 + j, none⟩ = some (.string (R2.getD j ⟨#[]⟩)) := fun j hj => by rw [Nat.zero_add]; exact (hBa6.cell (p := ⟨g2, j, none⟩) hgl2).trans (HG2.out j hj)
  have kN2 := named_some R2 g2 0 cap2 W6 hR2l (Nat.lt_of_lt_of_le hgl2 hBa6.size) (fun x hx => by have := HZR.out x (hsub x hx); omega) hgc6
  have hbc6 : ∀ j, j < (L0.map nmB).length → W6.cell? ⟨b, 0 + j, none⟩ = some (.string ((L0.map nmB).getD j ⟨#[]⟩)) := fun j hj => (hBa6.cell (p := ⟨b, 0 + j, none⟩) hb5).trans (HBC5.out j hj)
  have hb6 : b < W6.heap.size := Nat.lt_of_lt_of_le hb5 hBa6.size
  have hbA : b ≠ w5.heap.size := by omega
  generalize hAA : w5.heap.size = A at hA6 hDA hRA hbA
  have HW6 := hide' hW6
  have HAA := hide' hAA
  have HBC6 := hide' hbc6
  have d16 := hD6.c1
  clear hW6 hAA hbc6 hgc6 hBa6 hD5 hx5 d0 d1 d2 d3
  go_wp2_with fail
  refine kN2.mono ?_
  rintro e w7 ⟨vn, rfl, hvn, hb7⟩
  rw [show R2.length = (R2.map nmB).length from (List.length_map ..).symm] at hvn
  obtain ⟨g3, cap3, rfl, hcap3, _, _, hgl3, _, hgc3⟩ := row_cells hvn (by intro h; rw [List.map_eq_nil_iff] at h; rw [h] at hil; simp at hil)
  have hgd : ∀ j, j < R2.length → (R2.map nmB).getD j ⟨#[]⟩ = nmB (R2.getD j ⟨#[]⟩) := fun j hj => by
    rw [List.getD_eq_getElem?_getD, List.getD_eq_getElem?_getD, List.getElem?_map, List.getElem?_eq_getElem hj]
    rfl
  have kP := parted_bar (R2.map nmB) g3 0 cap3 w7 (by rw [List.length_map]; exact hR2l) hcap3 hgl3 (fun x hx => by
    obtain ⟨y, hy, rfl⟩ := List.mem_map.1 hx
    have h8 := nmB_size y
    have h9 := HZR.out y (hsub y hy)
    omega) (fun j hj => by rw [Nat.zero_add]; exact hgc3 j hj) i (by rw [List.length_map]; exact hil) (by rw [hgd i (by omega)]; exact hib) (fun j hj => by rw [hgd j (by omega)]; exact hbn j hj)
  rw [List.length_map] at kP
  have HVN := hide' hvn
  rw [List.length_map]
  clear hgc3 hgd hvn hib hbn kN2
  go_wp2_with fail
  refine kP.mono ?_
  rintro e w8 ⟨ov, rfl, hov, hb8⟩
  obtain ⟨a8, c8, rfl⟩ := row_form hov
  have hA8 := (hA6.below hb7).below hb8
  have hx8 := (hx6.below hb7).below hb8
  have hD8 := (hD6.below hb7).below hb8
  have hB7 := hB6.trans (hb7.mono hB6.size)
  have hB8 := hB7.trans (hb8.mono hB7.size)
  have hb67 : b < w7.heap.size := Nat.lt_of_lt_of_le hb6 hb7.size
  have hbc8 : ∀ j, j < (L0.map nmB).length → w8.cell? ⟨b, 0 + j, none⟩ = some (.string ((L0.map nmB).getD j ⟨#[]⟩)) := fun j hj => (hb8.cell (p := ⟨b, 0 + j, none⟩) hb67).trans ((hb7.cell (p := ⟨b, 0 + j, none⟩) hb6).trans (HBC6.out j hj))
  have hb88 : b < w8.heap.size := Nat.lt_of_lt_of_le hb67 hb8.size
  have ac0 := hA8.c0
  have af0 := hA8.fz 0
  have ac1 := hA8.c1
  have af1 := hA8.fz 1
  have ac2 := hA8.c2
  have af2 := hA8.fz 2
  have ac3 := hA8.c3
  have af3 := hA8.fz 3
  have ac4 := hA8.c4
  have af4 := hA8.fz 4
  have ac5 := hA8.c5
  have af5 := hA8.fz 5
  have ac6 := hA8.c6
  have af6 := hA8.fz 6
  have ac7 := hA8.c7
  have af7 := hA8.fz 7
  have ac8 := hA8.c8
  have af8 := hA8.fz 8
  have ac9 := hA8.c9
  have af9 := hA8.fz 9
  have ac10 := hA8.c10
  have af10 := hA8.fz 10
  have d83 := hD8.c3
  have HA8 := hide' hA8
  have HX8 := hide' hx8
  have HD8 := hide' hD8
  have HBC8 := hide' hbc8
  have HB8 := hide' hB8
  clear hA8 hx8 hD8 hbc8 hB8 hov kP hA6 hx6 hD6 hb7 hb8 hB6 hB7 d16
  go_wp2_with fail
  have hRne : w.heap.size ≠ A := by omega
  have hDne : D ≠ A := by omega
  have hA9 : Bx11 (((w8.setCell ⟨A, 1, none⟩ (.slice (some ⟨g3, 0, none⟩) i i)).setCell ⟨A, 2, none⟩ (.slice a8 (R2.length - (i + 1)) c8)).setCell ⟨A, 3, none⟩ (.bool false)) A (.slice (some ⟨b, 0, none⟩) L0.length cap) (.slice (some ⟨g3, 0, none⟩) i i) (.slice a8 (R2.length - (i + 1)) c8) (.bool false) (.bool false) (.bool false) (.string st) (.slice none 0 0) (.bool false) (.string ⟨#[]⟩) (.bool false) := by
    have h9 := set_block (set_block (set_block HA8.out 1 (.slice (some ⟨g3, 0, none⟩) i i)) 2 (.slice a8 (R2.length - (i + 1)) c8)) 3 (.bool false)
    exact h9.trans (by simp)
  have hx9 := ((HX8.out.other hRne 1 (.slice (some ⟨g3, 0, none⟩) i i)).other hRne 2 (.slice a8 (R2.length - (i + 1)) c8)).other hRne 3 (.bool false)
  have hD9 : (((w8.setCell ⟨A, 1, none⟩ (.slice (some ⟨g3, 0, none⟩) i i)).setCell ⟨A, 2, none⟩ (.slice a8 (R2.length - (i + 1)) c8)).setCell ⟨A, 3, none⟩ (.bool false)).heap[D]? = w8.heap[D]? := (set_other _ _ _ _ hDne).trans ((set_other _ _ _ _ hDne).trans (set_other _ _ _ _ hDne))
  have hb9 : (((w8.setCell ⟨A, 1, none⟩ (.slice (some ⟨g3, 0, none⟩) i i)).setCell ⟨A, 2, none⟩ (.slice a8 (R2.length - (i + 1)) c8)).setCell ⟨A, 3, none⟩ (.bool false)).heap[b]? = w8.heap[b]? := (set_other _ _ _ _ hbA).trans ((set_other _ _ _ _ hbA).trans (set_other _ _ _ _ hbA))
  have hsz9 : (((w8.setCell ⟨A, 1, none⟩ (.slice (some ⟨g3, 0, none⟩) i i)).setCell ⟨A, 2, none⟩ (.slice a8 (R2.length - (i + 1)) c8)).setCell ⟨A, 3, none⟩ (.bool false)).heap.size = w8.heap.size := by simp
  have hRA' : w.heap.size ≤ A := by omega
  have hB9 := ((HB8.out.setCell (p := ⟨A, 1, none⟩) hRA' (.slice (some ⟨g3, 0, none⟩) i i)).setCell (p := ⟨A, 2, none⟩) hRA' (.slice a8 (R2.length - (i + 1)) c8)).setCell (p := ⟨A, 3, none⟩) hRA' (.bool false)
  generalize hW9 : (((w8.setCell ⟨A, 1, none⟩ (.slice (some ⟨g3, 0, none⟩) i i)).setCell ⟨A, 2, none⟩ (.slice a8 (R2.length - (i + 1)) c8)).setCell ⟨A, 3, none⟩ (.bool false)) = W9 at hA9 hx9 hD9 hb9 hsz9 hB9
  have hd9 : W9.cell? ⟨D, 0, none⟩ = some (.slice (some ⟨b, 0, none⟩) L0.length cap) := (cell_of_block (p := ⟨D, 0, none⟩) hD9).trans HD8.out.c0
  have kK := copies_some (L0.map nmB) b 0 cap W9.drew (by rw [List.length_map]; omega) (by show b < W9.heap.size; omega) (fun x hx => by
    obtain ⟨y, hy, rfl⟩ := List.mem_map.1 hx
    have h8 := nmB_size y
    have h9 := HZ0.out y hy
    omega) (fun j hj => (cell_of_block (p := ⟨b, 0 + j, none⟩) hb9).trans (HBC8.out j hj))
  rw [List.length_map] at kK
  have hC9 : MkC A D (.slice (some ⟨b, 0, none⟩) L0.length cap) (.slice (some ⟨b, 0, none⟩) L0.length cap) (.slice (some ⟨g3, 0, none⟩) i i) (.slice a8 (R2.length - (i + 1)) c8) (.bool false) (.bool false) (.bool false) (.string st) (.slice none 0 0) (.bool false) (.string ⟨#[]⟩) (.bool false) W9.drew := ⟨hA9, hd9⟩
  have HX9 := hide' hx9
  have HB9 := hide' hB9
  clear ac0 af0 ac1 af1 ac2 af2 ac3 af3 ac4 af4 ac5 af5 ac6 af6 ac7 af7 ac8 af8 ac9 af9 ac10 af10 hx9 hB9 hd9 hA9 hD9 hb9 hsz9 hW9 d83
  refine wp_region_classX [5, 6, 7] (C := MkC A D (.slice (some ⟨b, 0, none⟩) L0.length cap) (.slice (some ⟨b, 0, none⟩) L0.length cap) (.slice (some ⟨g3, 0, none⟩) i i) (.slice a8 (R2.length - (i + 1)) c8) (.bool false) (.bool false) (.bool false) (.string st) (.slice none 0 0) (.bool false) (.string ⟨#[]⟩) (.bool false)) (by kernel_rfl) ?_
  (refine wpAnyX_take (i := 0) (v := ?_) hC9 rfl (by kernel_rfl) (by kernel_rfl) (by kernel_rfl) (by kernel_rfl) (fun _ _ _ h => h) (Or.inl ⟨by kernel_rfl, ?_⟩) ?_; rotate_left; (intro w hc; have k0 := hc.a.c0; have k1 := hc.a.c1; have k2 := hc.a.c2; have k3 := hc.a.c3; have k4 := hc.a.c4; have k5 := hc.a.c5; have k6 := hc.a.c6; have k7 := hc.a.c7; have k8 := hc.a.c8; have k9 := hc.a.c9; have k10 := hc.a.c10; have kd := hc.d; clear hc; go_simp; try with_reducible rfl))
  go_simp
  (refine wpAnyX_take (i := 1) (v := ?_) hC9 rfl (by kernel_rfl) (by kernel_rfl) (by kernel_rfl) (by kernel_rfl) (fun _ _ _ h => h) (Or.inl ⟨by kernel_rfl, ?_⟩) ?_; rotate_left; (intro w hc; have k0 := hc.a.c0; have k1 := hc.a.c1; have k2 := hc.a.c2; have k3 := hc.a.c3; have k4 := hc.a.c4; have k5 := hc.a.c5; have k6 := hc.a.c6; have k7 := hc.a.c7; have k8 := hc.a.c8; have k9 := hc.a.c9; have k10 := hc.a.c10; have kd := hc.d; clear hc; go_simp; try with_reducible rfl))
  go_simp
  (refine wpAnyX_take (i := 2) (v := ?_) hC9 rfl (by kernel_rfl) (by kernel_rfl) (by kernel_rfl) (by kernel_rfl) (fun _ _ _ h => h) (Or.inl ⟨by kernel_rfl, ?_⟩) ?_; rotate_left; (intro w hc; have k0 := hc.a.c0; have k1 := hc.a.c1; have k2 := hc.a.c2; have k3 := hc.a.c3; have k4 := hc.a.c4; have k5 := hc.a.c5; have k6 := hc.a.c6; have k7 := hc.a.c7; have k8 := hc.a.c8; have k9 := hc.a.c9; have k10 := hc.a.c10; have kd := hc.d; clear hc; go_simp; try with_reducible rfl))
  go_simp
  (refine wpAnyX_take (i := 3) (v := ?_) hC9 rfl (by kernel_rfl) (by kernel_rfl) (by kernel_rfl) (by kernel_rfl) (fun _ _ _ h => h) (Or.inl ⟨by kernel_rfl, ?_⟩) ?_; rotate_left; (intro w hc; have k0 := hc.a.c0; have k1 := hc.a.c1; have k2 := hc.a.c2; have k3 := hc.a.c3; have k4 := hc.a.c4; have k5 := hc.a.c5; have k6 := hc.a.c6; have k7 := hc.a.c7; have k8 := hc.a.c8; have k9 := hc.a.c9; have k10 := hc.a.c10; have kd := hc.d; clear hc; go_simp; try with_reducible rfl))
  go_simp
  refine wpAnyX_one (i := 4) (by kernel_rfl) (wpOp_wanted rfl (by rfl) ?_)
  go_simp
  refine kK.mono ?_
  rintro e w10 ⟨tv, rfl, htv, hb10⟩
  refine ⟨⟨hC9.a.below hb10, (hb10.cell (p := ⟨D, 0, none⟩) (show D < W9.heap.size from World.block_lt_of_cell? _ _ hC9.d)).trans hC9.d⟩, ?_⟩
  obtain ⟨a10, c10, rfl⟩ := row_form htv
  have hx10 := HX9.out.below (w' := w10) ⟨hb10.os, hb10.tape, hb10.output, hb10.size, hb10.block⟩
  have hB10 := HB9.out.trans ((⟨hb10.os, hb10.tape, hb10.output, hb10.size, hb10.block⟩ : Below W9.heap.size W9 w10).mono HB9.out.size)
  have xc0 := hx10.c0
  have xf0 := hx10.fz 0
  have xc1 := hx10.c1
  have xf1 := hx10.fz 1
  have xc2 := hx10.c2
  have xf2 := hx10.fz 2
  have xc3 := hx10.c3
  have xf3 := hx10.fz 3
  have xc4 := hx10.c4
  have xf4 := hx10.fz 4
  have xc5 := hx10.c5
  have xf5 := hx10.fz 5
  have xc6 := hx10.c6
  have xf6 := hx10.fz 6
  have xc7 := hx10.c7
  have xf7 := hx10.fz 7
  have xc8 := hx10.c8
  have xf8 := hx10.fz 8
  have xc9 := hx10.c9
  have xf9 := hx10.fz 9
  have xc10 := hx10.c10
  have xf10 := hx10.fz 10
  have HX10 := hide' hx10
  clear hx10 hC9 kK htv hb10
  refine wpAnyX_one (i := 5) (by kernel_rfl) (wpOp_wanted rfl (by rfl) ?_)
  go_simp
  refine wpAnyX_one (i := 6) (by kernel_rfl) (wpOp_wanted rfl (by rfl) ?_)
  go_simp
  refine wpAnyX_one (i := 7) (by kernel_rfl) (wpOp_wanted rfl (by rfl) ?_)
  go_simp
  refine wpAnyX_done (by kernel_rfl) ?_ _
  go_wp2
  have hxf := HX10.out.set (v0 := (.slice (some ⟨b, 0, none⟩) L0.length cap)) (v1 := (.slice (some ⟨g3, 0, none⟩) i i)) (v2 := (.slice a8 (R2.length - (i + 1)) c8)) (v3 := (.bool false)) (v4 := (.bool false)) (v5 := (.bool false)) (v6 := (.string st)) (v7 := (.slice none 0 0)) (v8 := (.bool false)) (v9 := (.string ⟨#[]⟩)) (v10 := (.bool false))
  have e0 := hxf.c0
  have e1 := hxf.c1
  have e2 := hxf.c2
  have e3 := hxf.c3
  have e4 := hxf.c4
  have e5 := hxf.c5
  have e6 := hxf.c6
  have e7 := hxf.c7
  have e8 := hxf.c8
  have e9 := hxf.c9
  have e10 := hxf.c10
  refine bodyPost_ret (by simp [results, Tryz.results14, go_sem, e0, e1, e2, e3, e4, e5, e6, e7, e8, e9, e10]; rfl) rfl ?_
  exact ⟨⟨_, _, _, _, _, _, _, rfl⟩, put11_below hB10 (Nat.le_refl _) _ _ _ _ _ _ _ _ _ _ _⟩
end Go.Proofs.YthkjinhnnilalaaGreatDoor
