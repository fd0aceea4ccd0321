/- The contract of rule.settle at a static pattern that is right. -/
import Derived.Test.YthkjinhnnilalaaGreatDoorPart
namespace Go.Proofs.YthkjinhnnilalaaGreatDoor
open Go.RowKit Go.Shelf

theorem cell_of_block {w w' : World} {p : Addr} (h : w'.heap[p.block]? = w.heap[p.block]?) : w'.cell? p = w.cell? p := by simp only [World.cell?, h]
set_option maxRecDepth 100000 in
set_option maxHeartbeats 2000000 in
/-- settle, of a static pattern whose colon stands by itself behind one word -/
theorem settle_ok (D : Nat) (L R : List ByteArray) (b cap g capR : Nat) (st : ByteArray) (w : World)
    (hD : Dr w D (.slice (some ⟨b, 0, none⟩) L.length cap) (.slice (some ⟨g, 0, none⟩) R.length capR) ⟨#[]⟩ false)
    (hL0 : 0 < L.length) (hl : L.length ≤ 100000) (hb : b < w.heap.size) (hbD : b ≠ D) (hs : ∀ x ∈ L, x.size ≤ 1000000 ∧ (Pt.mt (tl st) (tl x)).2 = true ∧ Pt.opn (tl x) = false) (hc : ∀ j, j < L.length → w.cell? ⟨b, 0 + j, none⟩ = some (.string (L.getD j ⟨#[]⟩)))
    (hR : 2 < R.length) (hlR : R.length ≤ 100000) (hcR : R.length ≤ capR) (hg : g < w.heap.size) (hgD : g ≠ D) (hsR : ∀ x ∈ R, x.size ≤ 1000000 ∧ nbr (tl x)) (hcc : ∀ j, j < R.length → w.cell? ⟨g, 0 + j, none⟩ = some (.string (R.getD j ⟨#[]⟩)))
    (h1 : R.getD 1 ⟨#[]⟩ = ⟨#[58]⟩) (h0 : Lib.indexByte (tl (R.getD 0 ⟨#[]⟩)) 58 = -1) (hst : nmB (R.getD 0 ⟨#[]⟩) = st) (hss : st.size ≤ 1000000) (ho : Pt.opn (tl st) = true) :
    Calls Tryz.prog 27 #[.pointer (some ⟨D, 0, none⟩)] w fun e w' => e = .returned .nilIface ∧ ∃ vb, Dr w' D (.slice (some ⟨b, 0, none⟩) L.length cap) vb st false ∧ w'.ownsRow w.heap.size 9 1 vb (R.length - 2) ((R.drop 2).map Value.string) ∧ Turn (· = D) w w' := by
  have kC := cut_bare R g 0 capR w hlR hcR hsR hcc 1 (by omega) (by omega) h1 (fun j hj => by have hj0 : j = 0 := Nat.lt_one_iff.1 hj; rw [hj0]; exact h0)
  have d0 := hD.c0
  have d1 := hD.c1
  have dl : ((L.length : Int) == 0) = false := beq_eq_false_iff_ne.2 (by omega)
  have hx0 := (hsR (R.getD 0 ⟨#[]⟩) (by rw [List.getD_eq_getElem?_getD, List.getElem?_eq_getElem (by omega)]; exact List.getElem_mem _)).1
  have c0 := hcc 0 (by omega)
  generalize R.getD 0 ⟨#[]⟩ = r0 at hx0 c0 hst h0
  have HS := hide' hs
  have HC := hide' hc
  have HD := hide' hD
  have HR := hide' hR
  have HH := hide' hb
  have HG := hide' hg
  clear hs hc hsR hcc h1 h0 hlR hcR hD hR hb hg
  go_enter Tryz.func27, Tryz.ntmps27
  go_wp2_with fail
  refine kC.mono ?_
  rintro e w1 ⟨vb, rfl, hvb, hb1⟩
  obtain ⟨a1, c1, rfl⟩ := row_form hvb
  have hD1 := HD.out.below hb1
  have e1 := hD1.c1
  have f1 := hD1.fz 1
  have hD2 := hD1.set1 (.slice a1 (R.length - (1 + 1)) c1)
  have hT2 := turn_set w1 D 1 (.slice a1 (R.length - (1 + 1)) c1)
  have hg1 : g < w1.heap.size := Nat.lt_of_lt_of_le HG.out hb1.size
  have hb9 : b < w1.heap.size := Nat.lt_of_lt_of_le HH.out hb1.size
  have hvk : ∀ W : World, (∀ i, i < w1.heap.size → i ≠ D → W.heap[i]? = w1.heap[i]?) → W.ownsRow w.heap.size 9 1 (.slice a1 (R.length - (1 + 1)) c1) (R.length - (1 + 1)) ((R.drop (1 + 1)).map Value.string) := fun W h => own_kept hvb fun k hk => h k (own_lt hvb k hk) (fun e => own_block hvb hD1 (by decide) (by rw [← e]; exact hk))
  generalize hW2 : w1.setCell ⟨D, 1, none⟩ (.slice a1 (R.length - (1 + 1)) c1) = W2 at hD2 hT2
  have hkW : ∀ k, k < w1.heap.size → k ≠ D → W2.heap[k]? = w1.heap[k]? := fun k hk hn => hT2.block k hk hn
  have cg : W2.cell? ⟨g, 0 + 0, none⟩ = some (.string r0) := (cell_of_block (p := ⟨g, 0 + 0, none⟩) (hkW g hg1 hgD)).trans ((hb1.cell (p := ⟨g, 0 + 0, none⟩) HG.out).trans c0)
  have hgW : g < W2.heap.size := Nat.lt_of_lt_of_le hg1 hT2.size
  have kN := named_some [r0] g 0 1 W2 (by simp) hgW (fun x hx => by rw [List.mem_singleton] at hx; rw [hx]; exact hx0) (fun j hj => by
    obtain rfl : j = 0 := by simp at hj; omega
    exact cg)
  have HW2 := hide' hW2
  have HVK := hide' hvk
  have HKW := hide' hkW
  have HVB := hide' hvb
  have HB1 := hide' hb1
  clear hW2 hvk hkW hvb hD1 hb1 cg c0 kC
  go_wp2_with fail
  rw [HW2.out]
  refine kN.mono ?_
  rintro e w3 ⟨va, rfl, hva, hb3⟩
  obtain ⟨ga, cp, rfl, _, _, hgB, hgl, ⟨cur, hcur⟩, hca⟩ := row_cells (L := [r0].map nmB) hva (by simp)
  have ca := hca 0 (by simp)
  have ca' : w3.cell? ⟨ga, 0, none⟩ = some (.string st) := by rw [ca, ← hst]; rfl
  have hD3 := hD2.below hb3
  have hbW : b < W2.heap.size := Nat.lt_of_lt_of_le hb9 hT2.size
  have kS := static_ok D L b 0 cap (.slice a1 (R.length - (1 + 1)) c1) st ga cp w3 hD3 hl (Nat.lt_of_lt_of_le hbW hb3.size) hbD HS.out (fun j hj => (hb3.cell (p := ⟨b, 0 + j, none⟩) hbW).trans ((cell_of_block (p := ⟨b, 0 + j, none⟩) (HKW.out b hb9 hbD)).trans ((HB1.out.cell (p := ⟨b, 0 + j, none⟩) HH.out).trans (HC.out j hj)))) hss ho ca' hgl
  have HB3 := hide' hb3
  clear hca ca ca' hva kN hb3 hD3 hcur
  go_wp2_with fail
  refine kS.mono ?_
  rintro e w4 ⟨rfl, hD4, hT4⟩
  have hD4' := hide' hD4
  clear kS hD4
  go_wp2
  go_ret
  refine ⟨rfl, _, hD4'.out, ?_, ?_⟩
  · refine HVK.out w4 fun i hi hn => ?_
    exact (hT4.block i (Nat.lt_of_lt_of_le (Nat.lt_of_lt_of_le hi hT2.size) HB3.out.size) hn).trans ((HB3.out.block i (Nat.lt_of_lt_of_le hi hT2.size)).trans (HKW.out i hi hn))
  · exact (Turn.of_below (S := (· = D)) HB1.out).trans ((hT2.trans ((Turn.of_below (S := (· = D)) HB3.out).trans hT4 fun _ h => .inl h) fun _ h => .inl h)) fun _ h => .inl h
end Go.Proofs.YthkjinhnnilalaaGreatDoor
