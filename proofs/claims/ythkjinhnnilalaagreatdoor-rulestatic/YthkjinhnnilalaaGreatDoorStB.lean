/- The contracts of rule.settleStatic where a target does not match, and of rule.settlePattern. -/
import Derived.Test.YthkjinhnnilalaaGreatDoorSet
namespace Go.Proofs.YthkjinhnnilalaaGreatDoor
open Go.RowKit Go.Shelf

set_option maxRecDepth 100000 in
set_option maxHeartbeats 2000000 in
theorem static_bad (D : Nat) (L : List ByteArray) (m : Nat) (b off cap : Nat) (rv : Value) (st : ByteArray) (a : Nat) (cp : Nat) (w : World) (hD : Dr w D (.slice (some ⟨b, off, none⟩) L.length cap) rv ⟨#[]⟩ false) (hl : L.length ≤ 100000) (hb : b < w.heap.size) (hbD : b ≠ D) (hml : m < L.length) (hs : ∀ j, j < m → (L.getD j ⟨#[]⟩).size ≤ 1000000 ∧ (Pt.mt (tl st) (tl (L.getD j ⟨#[]⟩))).2 = true ∧ Pt.opn (tl (L.getD j ⟨#[]⟩)) = false) (hsm : (L.getD m ⟨#[]⟩).size ≤ 1000000 ∧ (Pt.mt (tl st) (tl (L.getD m ⟨#[]⟩))).2 = false) (hc : ∀ j, j < L.length → w.cell? ⟨b, off + j, none⟩ = some (.string (L.getD j ⟨#[]⟩)))
    (hst : st.size ≤ 1000000) (ho : Pt.opn (tl st) = true) (ha : w.cell? ⟨a, 0, none⟩ = some (.string st)) (hal : a < w.heap.size) :
    Calls Tryz.prog 48 #[.pointer (some ⟨D, 0, none⟩), .slice (some ⟨a, 0, none⟩) 1 cp] w fun e w' => ∃ v, e = .returned v ∧ IsE w' v 55 ∧ Turn (· = D) w w' := by
  have d0 := hD.c0
  have d2 := hD.c2
  have f2 := hD.fz 2
  have kO := fun w => Pt.has_any st w
  rw [show Pt.opn (Pt.tl st) = true from ho] at kO
  have hD2 := hD.set2 st
  have hT2 := turn_set w D 2 (.string st)
  generalize hW : w.setCell ⟨D, 2, none⟩ (.string st) = W at hD2 hT2
  have HW := hide' hW
  have d02 := hD2.c0
  clear hW
  go_enter Tryz.func48, Tryz.ntmps48
  go_upto_region 4 with (go_at_call 67; refine (kO _).mono ?_; rintro e w1 ⟨rfl, rfl⟩)
  rw [HW.out]
  go_wp2
  go_loopw [37] (fun i wr => ∃ k : Nat, k ≤ m ∧ i = .int .i64 k ∧ Below W.heap.size W wr) (fun i _ => L.length - (intOf i).toNat)
  case atStart => exact ⟨0, Nat.zero_le _, rfl, Below.refl _ _⟩
  case round =>
    obtain ⟨k, hk, rfl, hB⟩ := hrel
    have hDr := hD2.below hB
    have hlt : k < L.length := by omega
    have hbW : b < W.heap.size := Nat.lt_of_lt_of_le hb hT2.size
    have cW : W.cell? ⟨b, off + k, none⟩ = some (.string (L.getD k ⟨#[]⟩)) := by
      have h9 := hT2.block b hb hbD
      have := hc k hlt
      simp only [World.cell?, h9] at this ⊢
      exact this
    have cc := (hB.cell (p := ⟨b, off + k, none⟩) hbW).trans cW
    by_cases hkm : k < m
    · have hx := hs k hkm
      generalize L.getD k ⟨#[]⟩ = x at cc hx
      have kM := fun w => Pt.pmatch_any st x w hst hx.1
      rw [show (Pt.mt (Pt.tl st) (Pt.tl x)).2 = true from hx.2.1] at kM
      have kH := fun w => Pt.has_any x w
      rw [show Pt.opn (Pt.tl x) = false from hx.2.2] at kH
      generalize Pt.mk (Pt.mt (Pt.tl st) (Pt.tl x)).1 = sm at kM
      have e2 := hDr.c2
      have HC := hide' hc
      have HS := hide' hs
      clear hc hs hx cW hsm
      go_wp2_with (first | (go_at_call 68; refine (kM _).mono ?_; rintro e w3 ⟨rfl, hb3⟩) | (go_at_call 67; refine (kH _).mono ?_; rintro e w4 ⟨rfl, rfl⟩))
      exact ⟨⟨k + 1, by omega, by go_num, hB.trans (hb3.mono hB.size)⟩, by simp [intOf]; omega⟩
    · obtain rfl : k = m := by omega
      generalize L.getD k ⟨#[]⟩ = x at cc hsm
      have kM := fun w => Pt.pmatch_any st x w hst hsm.1
      rw [show (Pt.mt (Pt.tl st) (Pt.tl x)).2 = false from hsm.2] at kM
      generalize Pt.mk (Pt.mt (Pt.tl st) (Pt.tl x)).1 = sm at kM
      have e2 := hDr.c2
      have HC := hide' hc
      have HS := hide' hs
      have HT2 := hide' hT2
      clear hc hs cW hsm
      go_wp2_with (first | (go_at_call 68; refine (kM _).mono ?_; rintro e w3 ⟨rfl, hb3⟩))
      go_ret
      have hB3 := hB.trans (hb3.mono hB.size)
      have hB4 := hB3.alloc hB3.size (.cells #[.string x, .iface 30 (.int .i64 55)] 73)
      exact ⟨_, rfl, .inr ⟨by decide, _, _, rfl, heap_alloc_new _ _⟩, HT2.out.trans (Turn.of_below (S := (· = D)) hB4) fun _ h => .inl h⟩
set_option maxRecDepth 100000 in
set_option maxHeartbeats 2000000 in
/-- settlePattern, of patterns alone -/
theorem pat_ok (D : Nat) (L : List ByteArray) (b off cap : Nat) (rv : Value) (w : World) (hD : Dr w D (.slice (some ⟨b, off, none⟩) L.length cap) rv ⟨#[]⟩ false) (hl : L.length ≤ 100000) (h0 : 0 < L.length) (hb : b < w.heap.size) (hbD : b ≠ D) (hs : ∀ j, j < L.length → Pt.opn (tl (L.getD j ⟨#[]⟩)) = true) (hc : ∀ j, j < L.length → w.cell? ⟨b, off + j, none⟩ = some (.string (L.getD j ⟨#[]⟩))) :
    Calls Tryz.prog 49 #[.pointer (some ⟨D, 0, none⟩)] w fun e w' => e = .returned .nilIface ∧ Dr w' D (.slice (some ⟨b, off, none⟩) L.length cap) rv ⟨#[]⟩ true ∧ Turn (· = D) w w' := by
  have d0 := hD.c0
  have f3 := hD.fz 3
  have d3 := hD.c3
  have c0 := hc 0 h0
  have kO := fun w => Pt.has_any (L.getD 0 ⟨#[]⟩) w
  rw [show Pt.opn (Pt.tl (L.getD 0 ⟨#[]⟩)) = true from hs 0 h0] at kO
  generalize L.getD 0 ⟨#[]⟩ = x0 at c0 kO
  rw [Nat.add_zero] at c0
  have hD2 := hD.set3 true
  have hT2 := turn_set w D 3 (.bool true)
  generalize hW : w.setCell ⟨D, 3, none⟩ (.bool true) = W at hD2 hT2
  have HW := hide' hW
  have d02 := hD2.c0
  clear hW
  go_enter Tryz.func49, Tryz.ntmps49
  go_upto_region 2 with (go_at_call 67; refine (kO _).mono ?_; rintro e w1 ⟨rfl, rfl⟩)
  rw [HW.out]
  go_wp2
  go_loopw [22] (fun i wr => ∃ k q : Nat, k ≤ L.length ∧ i = .int .i64 k ∧ wr = W.drewN q) (fun i _ => L.length - (intOf i).toNat)
  case atStart => exact ⟨0, 0, Nat.zero_le _, rfl, rfl⟩
  case round =>
    obtain ⟨k, q, hk, rfl, hwr⟩ := hrel
    by_cases hlt : k < L.length
    · have cW : W.cell? ⟨b, off + k, none⟩ = some (.string (L.getD k ⟨#[]⟩)) := by
        have h9 := hT2.block b hb hbD
        have := hc k hlt
        simp only [World.cell?, h9] at this ⊢
        exact this
      have cc : wr.cell? ⟨b, off + k, none⟩ = some (.string (L.getD k ⟨#[]⟩)) := by rw [hwr]; exact cW
      have hx := hs k hlt
      generalize L.getD k ⟨#[]⟩ = x at cc hx
      have kH := fun w => Pt.has_any x w
      rw [show Pt.opn (Pt.tl x) = true from hx] at kH
      have e3 : wr.cell? ⟨D, 3, none⟩ = some (.bool true) := by rw [hwr]; exact hD2.c3
      have HWR := hide' hwr
      clear hc hs hx cW hwr
      go_wp2
      go_quiet ((go_at_call 67; exact Calls.quiet_of_same (kH _)))
      go_wp2
      exact ⟨⟨k + 1, q + nq, by omega, by go_num, by rw [HWR.out]; exact drn _ _ _⟩, by simp [intOf]; omega⟩
    · have hDr : Dr wr D (.slice (some ⟨b, off, none⟩) L.length cap) rv ⟨#[]⟩ true := by rw [hwr]; exact hD2
      have HDr := hide' hDr
      have HWR := hide' hwr
      have HT2 := hide' hT2
      clear hDr hc hs hwr
      go_wp2
      go_ret
      refine ⟨rfl, HDr.out, ?_⟩
      rw [HWR.out]
      exact ⟨HT2.out.os, HT2.out.tape, HT2.out.output, HT2.out.size, HT2.out.block⟩
set_option maxRecDepth 100000 in
set_option maxHeartbeats 2000000 in
/-- settlePattern, where a pattern stands behind targets that are none -/
theorem pat_bad (D : Nat) (L : List ByteArray) (m : Nat) (b off cap : Nat) (rv : Value) (w : World) (hD : Dr w D (.slice (some ⟨b, off, none⟩) L.length cap) rv ⟨#[]⟩ false) (hl : L.length ≤ 100000) (h0 : 0 < m) (hml : m < L.length) (hb : b < w.heap.size) (hbD : b ≠ D) (hs : ∀ j, j < m → Pt.opn (tl (L.getD j ⟨#[]⟩)) = false) (hsm : Pt.opn (tl (L.getD m ⟨#[]⟩)) = true) (hc : ∀ j, j < L.length → w.cell? ⟨b, off + j, none⟩ = some (.string (L.getD j ⟨#[]⟩))) :
    Calls Tryz.prog 49 #[.pointer (some ⟨D, 0, none⟩)] w fun e w' => ∃ v, e = .returned v ∧ IsE w' v 55 ∧ Turn (· = D) w w' := by
  have d0 := hD.c0
  have f3 := hD.fz 3
  have d3 := hD.c3
  have c0 := hc 0 (by omega)
  have kO := fun w => Pt.has_any (L.getD 0 ⟨#[]⟩) w
  rw [show Pt.opn (Pt.tl (L.getD 0 ⟨#[]⟩)) = false from hs 0 h0] at kO
  generalize L.getD 0 ⟨#[]⟩ = x0 at c0 kO
  rw [Nat.add_zero] at c0
  have hD2 := hD.set3 false
  have hT2 := turn_set w D 3 (.bool false)
  generalize hW : w.setCell ⟨D, 3, none⟩ (.bool false) = W at hD2 hT2
  have HW := hide' hW
  have d02 := hD2.c0
  clear hW
  go_enter Tryz.func49, Tryz.ntmps49
  go_upto_region 2 with (go_at_call 67; refine (kO _).mono ?_; rintro e w1 ⟨rfl, rfl⟩)
  rw [HW.out]
  go_wp2
  go_loopw [22] (fun i wr => ∃ k q : Nat, k ≤ m ∧ i = .int .i64 k ∧ wr = W.drewN q) (fun i _ => L.length - (intOf i).toNat)
  case atStart => exact ⟨0, 0, Nat.zero_le _, rfl, rfl⟩
  case round =>
    obtain ⟨k, q, hk, rfl, hwr⟩ := hrel
    have hlt : k < L.length := by omega
    have cW : W.cell? ⟨b, off + k, none⟩ = some (.string (L.getD k ⟨#[]⟩)) := by
      have h9 := hT2.block b hb hbD
      have := hc k hlt
      simp only [World.cell?, h9] at this ⊢
      exact this
    have cc : wr.cell? ⟨b, off + k, none⟩ = some (.string (L.getD k ⟨#[]⟩)) := by rw [hwr]; exact cW
    have e3 : wr.cell? ⟨D, 3, none⟩ = some (.bool false) := by rw [hwr]; exact hD2.c3
    have HWR := hide' hwr
    have hBw : Below W.heap.size W wr := by rw [hwr]; exact below_drewn q
    by_cases hkm : k < m
    · have hx := hs k hkm
      generalize L.getD k ⟨#[]⟩ = x at cc hx
      have kH := fun w => Pt.has_any x w
      rw [show Pt.opn (Pt.tl x) = false from hx] at kH
      clear hc hs hx cW hwr hsm
      go_wp2
      go_quiet ((go_at_call 67; exact Calls.quiet_of_same (kH _)))
      go_wp2
      exact ⟨⟨k + 1, q + nq, by omega, by go_num, by rw [HWR.out]; exact drn _ _ _⟩, by simp [intOf]; omega⟩
    · obtain rfl : k = m := by omega
      generalize L.getD k ⟨#[]⟩ = x at cc hsm
      have kH := fun w => Pt.has_any x w
      rw [show Pt.opn (Pt.tl x) = true from hsm] at kH
      have HT2 := hide' hT2
      clear hc hs cW hwr hsm
      go_wp2
      go_quiet ((go_at_call 67; exact Calls.quiet_of_same (kH _)))
      go_wp2
      go_ret
      have hB3 : Below W.heap.size W (wr.drewN nq) := ⟨hBw.os, hBw.tape, hBw.output, hBw.size, hBw.block⟩
      have hB4 := hB3.alloc hB3.size (.cells #[.string x, .iface 30 (.int .i64 55)] 73)
      exact ⟨_, rfl, .inr ⟨by decide, _, _, rfl, heap_alloc_new _ _⟩, HT2.out.trans (Turn.of_below (S := (· = D)) hB4) fun _ h => .inl h⟩
end Go.Proofs.YthkjinhnnilalaaGreatDoor
