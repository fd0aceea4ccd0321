/- The contracts of rule.settle at a static pattern whose first word ends in its colon, and where there is none. -/
import Derived.Test.YthkjinhnnilalaaGreatDoorCutH
import Derived.Test.YthkjinhnnilalaaGreatDoorStB
namespace Go.Proofs.YthkjinhnnilalaaGreatDoor
open Go.RowKit Go.Shelf

/-- a word that is a text and a colon -/
def ColP (x p : ByteArray) : Prop := x.size ≤ 1000000 ∧ nbr (tl x) ∧ p.size < x.size ∧ Lib.indexByte (tl x) 58 = (p.size : Nat) ∧ x.extract 0 p.size = p ∧ x.extract (p.size + 1) x.size = ⟨#[]⟩ ∧ p.toList.isEmpty = false
set_option maxRecDepth 100000 in
set_option maxHeartbeats 2000000 in
/-- settle, of a static pattern whose first word ends in its colon -/
theorem settle_head (D : Nat) (L R : List ByteArray) (b cap g capR : Nat) (x p st : ByteArray) (w : World)
    (hD : Dr w D (.slice (some ⟨b, 0, none⟩) L.length cap) (.slice (some ⟨g, 0, none⟩) R.length capR) ⟨#[]⟩ false)
    (hL0 : 0 < L.length) (hl : L.length ≤ 100000) (hb : b < w.heap.size) (hbD : b ≠ D) (hs : ∀ x ∈ L, x.size ≤ 1000000 ∧ (Pt.mt (tl st) (tl x)).2 = true ∧ Pt.opn (tl x) = false) (hc : ∀ j, j < L.length → w.cell? ⟨b, 0 + j, none⟩ = some (.string (L.getD j ⟨#[]⟩)))
    (hR : 1 < R.length) (hlR : R.length ≤ 100000) (hcR : R.length ≤ capR) (hcc : ∀ j, j < R.length → w.cell? ⟨g, 0 + j, none⟩ = some (.string (R.getD j ⟨#[]⟩)))
    (hx0 : R.getD 0 ⟨#[]⟩ = x) (hp : ColP x p) (hst : nmB p = st) (hss : st.size ≤ 1000000) (ho : Pt.opn (tl st) = true) :
    Calls Tryz.prog 27 #[.pointer (some ⟨D, 0, none⟩)] w fun e w' => e = .returned .nilIface ∧ ∃ vb, Dr w' D (.slice (some ⟨b, 0, none⟩) L.length cap) vb st false ∧ w'.ownsRow w.heap.size 9 1 vb (R.length - 1) ((R.drop 1).map Value.string) ∧ Turn (· = D) w w' := by
  have kC := cut_head R g 0 capR w hlR hcR hcc hR x p hx0 hp.1 hp.2.1 hp.2.2.1 hp.2.2.2.1 hp.2.2.2.2.1 hp.2.2.2.2.2.1 hp.2.2.2.2.2.2
  have hps : p.size ≤ 1000000 := by have := hp.1; have := hp.2.2.1; omega
  have d0 := hD.c0
  have d1 := hD.c1
  have dl : ((L.length : Int) == 0) = false := beq_eq_false_iff_ne.2 (by omega)
  have HS := hide' hs
  have HC := hide' hc
  have HD := hide' hD
  have HR := hide' hR
  have HH := hide' hb
  clear hs hc hcc hlR hcR hD hR hb hp hx0
  go_enter Tryz.func27, Tryz.ntmps27
  go_wp2_with fail
  refine kC.mono ?_
  rintro e w1 ⟨ga, ca, vb, rfl, hga, hgl, hvb, hb1⟩
  obtain ⟨a1, c1, rfl⟩ := row_form hvb
  have hD1 := HD.out.below hb1
  have e1 := hD1.c1
  have f1 := hD1.fz 1
  have hD2 := hD1.set1 (.slice a1 (R.length - 1) c1)
  have hT2 := turn_set w1 D 1 (.slice a1 (R.length - 1) c1)
  have hb9 : b < w1.heap.size := Nat.lt_of_lt_of_le HH.out hb1.size
  have hvk : ∀ W : World, (∀ i, i < w1.heap.size → i ≠ D → W.heap[i]? = w1.heap[i]?) → W.ownsRow w.heap.size 9 1 (.slice a1 (R.length - 1) c1) (R.length - 1) ((R.drop 1).map Value.string) := fun W h => own_kept hvb fun k hk => h k (own_lt hvb k hk) (fun e => own_block hvb hD1 (by decide) (by rw [← e]; exact hk))
  have hgD : ga ≠ D := by
    intro e
    have h1 := hD1.c0
    rw [← e, hga] at h1
    cases h1
  generalize hW2 : w1.setCell ⟨D, 1, none⟩ (.slice a1 (R.length - 1) c1) = W2 at hD2 hT2
  have hkW : ∀ k, k < w1.heap.size → k ≠ D → W2.heap[k]? = w1.heap[k]? := fun k hk hn => hT2.block k hk hn
  have cg : W2.cell? ⟨ga, 0 + 0, none⟩ = some (.string p) := (cell_of_block (p := ⟨ga, 0 + 0, none⟩) (hkW ga hgl hgD)).trans hga
  have hgW : ga < W2.heap.size := Nat.lt_of_lt_of_le hgl hT2.size
  have kN := named_some [p] ga 0 ca W2 (by simp) hgW (fun x hx => by rw [List.mem_singleton] at hx; rw [hx]; exact hps) (fun j hj => by
    obtain rfl : j = 0 := by simp at hj; omega
    exact cg)
  have HW2 := hide' hW2
  have HVK := hide' hvk
  have HKW := hide' hkW
  have HVB := hide' hvb
  have HB1 := hide' hb1
  clear hW2 hvk hkW hvb hD1 hb1 cg kC hga hgl
  go_wp2_with fail
  rw [HW2.out]
  refine kN.mono ?_
  rintro e w3 ⟨va, rfl, hva, hb3⟩
  obtain ⟨gb, cp, rfl, _, _, hgB, hgl, ⟨cur, hcur⟩, hca⟩ := row_cells (L := [p].map nmB) hva (by simp)
  have ca0 := hca 0 (by simp)
  have ca' : w3.cell? ⟨gb, 0, none⟩ = some (.string st) := by rw [ca0, ← hst]; rfl
  have hD3 := hD2.below hb3
  have hbW : b < W2.heap.size := Nat.lt_of_lt_of_le hb9 hT2.size
  have hcL : ∀ j, j < L.length → w3.cell? ⟨b, 0 + j, none⟩ = some (.string (L.getD j ⟨#[]⟩)) := fun j hj => (hb3.cell (p := ⟨b, 0 + j, none⟩) hbW).trans ((cell_of_block (p := ⟨b, 0 + j, none⟩) (HKW.out b hb9 hbD)).trans ((HB1.out.cell (p := ⟨b, 0 + j, none⟩) HH.out).trans (HC.out j hj)))
  have kS := static_ok D L b 0 cap (.slice a1 (R.length - 1) c1) st gb cp w3 hD3 hl (Nat.lt_of_lt_of_le hbW hb3.size) hbD HS.out hcL hss ho ca' hgl
  have HB3 := hide' hb3
  clear hca ca0 ca' hva kN hb3 hD3 hcur hcL
  go_wp2_with fail
  refine kS.mono ?_
  rintro e w4 ⟨rfl, hD4, hT4⟩
  have hD4' := hide' hD4
  clear kS hD4
  go_wp2
  go_ret
  refine ⟨rfl, _, hD4'.out, ?_, (Turn.of_below (S := (· = D)) HB1.out).trans ((hT2.trans ((Turn.of_below (S := (· = D)) HB3.out).trans hT4 fun _ h => .inl h) fun _ h => .inl h)) fun _ h => .inl h⟩
  refine HVK.out w4 fun i hi hn => ?_
  exact (hT4.block i (Nat.lt_of_lt_of_le (Nat.lt_of_lt_of_le hi hT2.size) HB3.out.size) hn).trans ((HB3.out.block i (Nat.lt_of_lt_of_le hi hT2.size)).trans (HKW.out i hi hn))
set_option maxRecDepth 100000 in
set_option maxHeartbeats 2000000 in
/-- settle, of a static pattern whose first word ends in its colon, a target not matching -/
theorem settle_head_bad (D : Nat) (L R : List ByteArray) (m : Nat) (b cap g capR : Nat) (x p st : ByteArray) (w : World)
    (hD : Dr w D (.slice (some ⟨b, 0, none⟩) L.length cap) (.slice (some ⟨g, 0, none⟩) R.length capR) ⟨#[]⟩ false)
    (hL0 : 0 < L.length) (hl : L.length ≤ 100000) (hb : b < w.heap.size) (hbD : b ≠ D) (hs : (m < L.length ∧ (∀ j, j < m → (L.getD j ⟨#[]⟩).size ≤ 1000000 ∧ (Pt.mt (tl st) (tl (L.getD j ⟨#[]⟩))).2 = true ∧ Pt.opn (tl (L.getD j ⟨#[]⟩)) = false)) ∧ (L.getD m ⟨#[]⟩).size ≤ 1000000 ∧ (Pt.mt (tl st) (tl (L.getD m ⟨#[]⟩))).2 = false) (hc : ∀ j, j < L.length → w.cell? ⟨b, 0 + j, none⟩ = some (.string (L.getD j ⟨#[]⟩)))
    (hR : 1 < R.length) (hlR : R.length ≤ 100000) (hcR : R.length ≤ capR) (hcc : ∀ j, j < R.length → w.cell? ⟨g, 0 + j, none⟩ = some (.string (R.getD j ⟨#[]⟩)))
    (hx0 : R.getD 0 ⟨#[]⟩ = x) (hp : ColP x p) (hst : nmB p = st) (hss : st.size ≤ 1000000) (ho : Pt.opn (tl st) = true) :
    Calls Tryz.prog 27 #[.pointer (some ⟨D, 0, none⟩)] w fun e w' => ∃ v, e = .returned v ∧ IsE w' v 55 ∧ Turn (· = D) w w' := by
  have kC := cut_head R g 0 capR w hlR hcR hcc hR x p hx0 hp.1 hp.2.1 hp.2.2.1 hp.2.2.2.1 hp.2.2.2.2.1 hp.2.2.2.2.2.1 hp.2.2.2.2.2.2
  have hps : p.size ≤ 1000000 := by have := hp.1; have := hp.2.2.1; omega
  have d0 := hD.c0
  have d1 := hD.c1
  have dl : ((L.length : Int) == 0) = false := beq_eq_false_iff_ne.2 (by omega)
  have HS := hide' hs
  have HC := hide' hc
  have HD := hide' hD
  have HR := hide' hR
  have HH := hide' hb
  clear hs hc hcc hlR hcR hD hR hb hp hx0
  go_enter Tryz.func27, Tryz.ntmps27
  go_wp2_with fail
  refine kC.mono ?_
  rintro e w1 ⟨ga, ca, vb, rfl, hga, hgl, hvb, hb1⟩
  obtain ⟨a1, c1, rfl⟩ := row_form hvb
  have hD1 := HD.out.below hb1
  have e1 := hD1.c1
  have f1 := hD1.fz 1
  have hD2 := hD1.set1 (.slice a1 (R.length - 1) c1)
  have hT2 := turn_set w1 D 1 (.slice a1 (R.length - 1) c1)
  have hb9 : b < w1.heap.size := Nat.lt_of_lt_of_le HH.out hb1.size
  have hvk : ∀ W : World, (∀ i, i < w1.heap.size → i ≠ D → W.heap[i]? = w1.heap[i]?) → W.ownsRow w.heap.size 9 1 (.slice a1 (R.length - 1) c1) (R.length - 1) ((R.drop 1).map Value.string) := fun W h => own_kept hvb fun k hk => h k (own_lt hvb k hk) (fun e => own_block hvb hD1 (by decide) (by rw [← e]; exact hk))
  have hgD : ga ≠ D := by
    intro e
    have h1 := hD1.c0
    rw [← e, hga] at h1
    cases h1
  generalize hW2 : w1.setCell ⟨D, 1, none⟩ (.slice a1 (R.length - 1) c1) = W2 at hD2 hT2
  have hkW : ∀ k, k < w1.heap.size → k ≠ D → W2.heap[k]? = w1.heap[k]? := fun k hk hn => hT2.block k hk hn
  have cg : W2.cell? ⟨ga, 0 + 0, none⟩ = some (.string p) := (cell_of_block (p := ⟨ga, 0 + 0, none⟩) (hkW ga hgl hgD)).trans hga
  have hgW : ga < W2.heap.size := Nat.lt_of_lt_of_le hgl hT2.size
  have kN := named_some [p] ga 0 ca W2 (by simp) hgW (fun x hx => by rw [List.mem_singleton] at hx; rw [hx]; exact hps) (fun j hj => by
    obtain rfl : j = 0 := by simp at hj; omega
    exact cg)
  have HW2 := hide' hW2
  have HVK := hide' hvk
  have HKW := hide' hkW
  have HVB := hide' hvb
  have HB1 := hide' hb1
  clear hW2 hvk hkW hvb hD1 hb1 cg kC hga hgl
  go_wp2_with fail
  rw [HW2.out]
  refine kN.mono ?_
  rintro e w3 ⟨va, rfl, hva, hb3⟩
  obtain ⟨gb, cp, rfl, _, _, hgB, hgl, ⟨cur, hcur⟩, hca⟩ := row_cells (L := [p].map nmB) hva (by simp)
  have ca0 := hca 0 (by simp)
  have ca' : w3.cell? ⟨gb, 0, none⟩ = some (.string st) := by rw [ca0, ← hst]; rfl
  have hD3 := hD2.below hb3
  have hbW : b < W2.heap.size := Nat.lt_of_lt_of_le hb9 hT2.size
  have hcL : ∀ j, j < L.length → w3.cell? ⟨b, 0 + j, none⟩ = some (.string (L.getD j ⟨#[]⟩)) := fun j hj => (hb3.cell (p := ⟨b, 0 + j, none⟩) hbW).trans ((cell_of_block (p := ⟨b, 0 + j, none⟩) (HKW.out b hb9 hbD)).trans ((HB1.out.cell (p := ⟨b, 0 + j, none⟩) HH.out).trans (HC.out j hj)))
  have kS := static_bad D L m b 0 cap (.slice a1 (R.length - 1) c1) st gb cp w3 hD3 hl (Nat.lt_of_lt_of_le hbW hb3.size) hbD HS.out.1.1 HS.out.1.2 HS.out.2 hcL hss ho ca' hgl
  have HB3 := hide' hb3
  clear hca ca0 ca' hva kN hb3 hD3 hcur hcL
  go_wp2_with fail
  refine kS.mono ?_
  rintro e w4 ⟨v, rfl, hE, hT4⟩
  have HE := hide' hE
  clear kS hE
  go_wp2
  go_ret
  exact ⟨_, rfl, HE.out, (Turn.of_below (S := (· = D)) HB1.out).trans ((hT2.trans ((Turn.of_below (S := (· = D)) HB3.out).trans hT4 fun _ h => .inl h) fun _ h => .inl h)) fun _ h => .inl h⟩
set_option maxRecDepth 100000 in
set_option maxHeartbeats 2000000 in
/-- settle, of patterns alone -/
theorem settle_pat (D : Nat) (L R : List ByteArray) (b cap g capR : Nat) (w : World)
    (hD : Dr w D (.slice (some ⟨b, 0, none⟩) L.length cap) (.slice (some ⟨g, 0, none⟩) R.length capR) ⟨#[]⟩ false)
    (hL0 : 0 < L.length) (hl : L.length ≤ 100000) (hb : b < w.heap.size) (hbD : b ≠ D) (hs : ∀ j, j < L.length → Pt.opn (tl (L.getD j ⟨#[]⟩)) = true) (hc : ∀ j, j < L.length → w.cell? ⟨b, 0 + j, none⟩ = some (.string (L.getD j ⟨#[]⟩)))
    (hlR : R.length ≤ 100000) (hsR : ∀ x ∈ R, x.size ≤ 1000000 ∧ nbr (tl x)) (hcc : ∀ j, j < R.length → w.cell? ⟨g, 0 + j, none⟩ = some (.string (R.getD j ⟨#[]⟩))) (hn : ∀ x ∈ R, Lib.indexByte (tl x) 58 = -1) :
    Calls Tryz.prog 27 #[.pointer (some ⟨D, 0, none⟩)] w fun e w' => e = .returned .nilIface ∧ Dr w' D (.slice (some ⟨b, 0, none⟩) L.length cap) (.slice (some ⟨g, 0, none⟩) R.length capR) ⟨#[]⟩ true ∧ Turn (· = D) w w' := by
  have kC := cut_none R g 0 capR w hlR hsR hcc hn
  have d0 := hD.c0
  have d1 := hD.c1
  have dl : ((L.length : Int) == 0) = false := beq_eq_false_iff_ne.2 (by omega)
  have kP : ∀ q, Calls Tryz.prog 49 #[.pointer (some ⟨D, 0, none⟩)] (w.drewN q) _ := fun q => pat_ok D L b 0 cap _ (w.drewN q) hD hl hL0 hb hbD hs hc
  clear hc hD hsR hcc hn hlR
  go_enter Tryz.func27, Tryz.ntmps27
  go_wp2_with fail
  refine kC.mono ?_
  rintro e w1 ⟨rfl, q, hw1⟩
  have kQ := kP q
  rw [← hw1] at kQ
  have HW1 := hide' hw1
  clear hw1 kP kC
  go_wp2_with fail
  refine kQ.mono ?_
  rintro e w4 ⟨rfl, hD4, hT4⟩
  rw [HW1.out] at hT4
  have HD4 := hide' hD4
  clear hD4
  go_wp2
  go_ret
  exact ⟨rfl, HD4.out, ⟨hT4.os, hT4.tape, hT4.output, hT4.size, hT4.block⟩⟩
set_option maxRecDepth 100000 in
set_option maxHeartbeats 2000000 in
/-- settle, where a pattern stands behind targets that are none -/
theorem settle_pat_bad (D : Nat) (L R : List ByteArray) (m : Nat) (b cap g capR : Nat) (w : World)
    (hD : Dr w D (.slice (some ⟨b, 0, none⟩) L.length cap) (.slice (some ⟨g, 0, none⟩) R.length capR) ⟨#[]⟩ false)
    (hL0 : 0 < L.length) (hl : L.length ≤ 100000) (hb : b < w.heap.size) (hbD : b ≠ D) (h0m : 0 < m) (hml : m < L.length) (hs : ∀ j, j < m → Pt.opn (tl (L.getD j ⟨#[]⟩)) = false) (hsm : Pt.opn (tl (L.getD m ⟨#[]⟩)) = true) (hc : ∀ j, j < L.length → w.cell? ⟨b, 0 + j, none⟩ = some (.string (L.getD j ⟨#[]⟩)))
    (hlR : R.length ≤ 100000) (hsR : ∀ x ∈ R, x.size ≤ 1000000 ∧ nbr (tl x)) (hcc : ∀ j, j < R.length → w.cell? ⟨g, 0 + j, none⟩ = some (.string (R.getD j ⟨#[]⟩))) (hn : ∀ x ∈ R, Lib.indexByte (tl x) 58 = -1) :
    Calls Tryz.prog 27 #[.pointer (some ⟨D, 0, none⟩)] w fun e w' => ∃ v, e = .returned v ∧ IsE w' v 55 ∧ Turn (· = D) w w' := by
  have kC := cut_none R g 0 capR w hlR hsR hcc hn
  have d0 := hD.c0
  have d1 := hD.c1
  have dl : ((L.length : Int) == 0) = false := beq_eq_false_iff_ne.2 (by omega)
  have kP : ∀ q, Calls Tryz.prog 49 #[.pointer (some ⟨D, 0, none⟩)] (w.drewN q) _ := fun q => pat_bad D L m b 0 cap _ (w.drewN q) hD hl h0m hml hb hbD hs hsm hc
  clear hc hD hsR hcc hn hlR
  go_enter Tryz.func27, Tryz.ntmps27
  go_wp2_with fail
  refine kC.mono ?_
  rintro e w1 ⟨rfl, q, hw1⟩
  have kQ := kP q
  rw [← hw1] at kQ
  have HW1 := hide' hw1
  clear hw1 kP kC
  go_wp2_with fail
  refine kQ.mono ?_
  rintro e w4 ⟨v, rfl, hE, hT4⟩
  rw [HW1.out] at hT4
  have HE := hide' hE
  clear hE
  go_wp2
  go_ret
  exact ⟨_, rfl, HE.out, ⟨hT4.os, hT4.tape, hT4.output, hT4.size, hT4.block⟩⟩
end Go.Proofs.YthkjinhnnilalaaGreatDoor
