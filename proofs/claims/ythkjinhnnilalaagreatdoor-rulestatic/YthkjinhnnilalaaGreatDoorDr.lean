/- A rule that is being made, in memory; strings.Cut at a byte; the contract of rule.settleStatic where it answers nothing. -/
import Derived.Test.YthkjinhnnilalaaGreatDoorGrp
import Derived.Test.YthkjinhnnilalaaGreatDoorPMatch
import Derived.Test.YthkjinhnnilalaaGreatDoorErr
import Derived.Deep.Cut
namespace Go.Proofs.YthkjinhnnilalaaGreatDoor
open Go.RowKit Go.Shelf

theorem cutl_no (c : UInt8) (s : ByteArray) (w : World) (h : Lib.indexByte (tl s) c = -1) :
    Calls Tryz.prog 43 #[.string s, .string ⟨#[c]⟩] w fun e w' => e = .returned (.tuple #[.string s, .string ⟨#[]⟩, .bool false]) ∧ ∃ n, w' = w.drewN n := by
  have q := Tryz.stringslite_Index_one s c w
  rw [show s.data.toList = tl s from rfl, h] at q
  clear h
  go_enter Tryz.func43, Tryz.ntmps43
  go_wp2_with fail
  refine q.mono ?_
  rintro e w' ⟨rfl, rfl⟩
  go_wp2
  go_ret3
  exact ⟨rfl, 0, rfl⟩
theorem cutl_yes (c : UInt8) (s : ByteArray) (m : Nat) (w : World) (hs : s.size ≤ 1000000) (hm : m < s.size) (h : Lib.indexByte (tl s) c = m) :
    Calls Tryz.prog 43 #[.string s, .string ⟨#[c]⟩] w fun e w' => e = .returned (.tuple #[.string (s.extract 0 m), .string (s.extract (m + 1) s.size), .bool true]) ∧ ∃ n, w' = w.drewN n := by
  have q := Tryz.stringslite_Index_one s c w
  rw [show s.data.toList = tl s from rfl, h] at q
  clear h
  go_enter Tryz.func43, Tryz.ntmps43
  go_wp2_with fail
  refine q.mono ?_
  rintro e w' ⟨rfl, rfl⟩
  go_wp2
  go_region
  go_wp2
  go_ret3
  exact ⟨rfl, 1, rfl⟩
theorem cuts_no (c : UInt8) (s : ByteArray) (w : World) (h : Lib.indexByte (tl s) c = -1) :
    Calls Tryz.prog 22 #[.string s, .string ⟨#[c]⟩] w fun e w' => e = .returned (.tuple #[.string s, .string ⟨#[]⟩, .bool false]) ∧ ∃ n, w' = w.drewN n := by
  have q := cutl_no c s w h
  go_enter Tryz.func22, Tryz.ntmps22
  go_wp2_with fail
  refine q.mono ?_
  rintro e w' ⟨rfl, n, rfl⟩
  go_wp2
  go_ret3
  exact ⟨rfl, n, rfl⟩
theorem cuts_yes (c : UInt8) (s : ByteArray) (m : Nat) (w : World) (hs : s.size ≤ 1000000) (hm : m < s.size) (h : Lib.indexByte (tl s) c = m) :
    Calls Tryz.prog 22 #[.string s, .string ⟨#[c]⟩] w fun e w' => e = .returned (.tuple #[.string (s.extract 0 m), .string (s.extract (m + 1) s.size), .bool true]) ∧ ∃ n, w' = w.drewN n := by
  have q := cutl_yes c s m w hs hm h
  generalize s.extract 0 m = a at q
  generalize s.extract (m + 1) s.size = b at q
  go_enter Tryz.func22, Tryz.ntmps22
  go_wp2_with fail
  refine q.mono ?_
  rintro e w' ⟨rfl, n, rfl⟩
  go_wp2
  go_ret3
  exact ⟨rfl, n, rfl⟩
theorem has40_no (s : ByteArray) (w : World) (h : nbr (tl s)) : Calls Tryz.prog 65 #[.string s, .string ⟨#[40]⟩] w fun e w' => e = .returned (.bool false) ∧ w' = w := by
  have := Tryz.strings_Contains_one s 40 w
  rw [show Lib.indexByte s.data.toList 40 = -1 from h] at this
  exact this
theorem some_nil (w : World) : Calls Tryz.prog 66 #[.string ⟨#[]⟩] w fun e w' => e = .returned (.slice none 0 0) ∧ w' = w := by
  go_enter Tryz.func66, Tryz.ntmps66
  go_wp2
  go_ret
  exact ⟨rfl, rfl⟩
theorem some_one (x : ByteArray) (hx : x.toList.isEmpty = false) (w : World) : Calls Tryz.prog 66 #[.string x] w fun e w' => e = .returned (.slice (some ⟨w.heap.size, 0, none⟩) 1 1) ∧ w' = w.alloc (.cells #[.string x] 9) := by
  go_enter Tryz.func66, Tryz.ntmps66
  go_wp2
  go_ret
  exact ⟨rfl, rfl⟩
/-- a rule that is being made, in a block of its own -/
def Dr (w : World) (D : Nat) (l r : Value) (s : ByteArray) (p : Bool) : Prop := w.heap[D]? = some (.cells #[l, r, .string s, .bool p] 51 (0, 0))
section
variable {w : World} {D : Nat} {l r : Value} {s : ByteArray} {p : Bool}
theorem Dr.c0 (x : Dr w D l r s p) : w.cell? ⟨D, 0, none⟩ = some l := by unfold Dr at x; rw [Lib.cell_of_heap x]; rfl
theorem Dr.c1 (x : Dr w D l r s p) : w.cell? ⟨D, 1, none⟩ = some r := by unfold Dr at x; rw [Lib.cell_of_heap x]; rfl
theorem Dr.c2 (x : Dr w D l r s p) : w.cell? ⟨D, 2, none⟩ = some (.string s) := by unfold Dr at x; rw [Lib.cell_of_heap x]; rfl
theorem Dr.c3 (x : Dr w D l r s p) : w.cell? ⟨D, 3, none⟩ = some (.bool p) := by unfold Dr at x; rw [Lib.cell_of_heap x]; rfl
theorem Dr.fz (x : Dr w D l r s p) (j : Nat) : w.frozen? ⟨D, j, none⟩ = false := Lib.frozen_of_heap x j
theorem Dr.lt (x : Dr w D l r s p) : D < w.heap.size := lt_of_block x
theorem Dr.below {w' : World} (x : Dr w D l r s p) (hb : Below w.heap.size w w') : Dr w' D l r s p := (hb.block D x.lt).trans x
theorem Dr.set1 (x : Dr w D l r s p) (r' : Value) : Dr (w.setCell ⟨D, 1, none⟩ r') D l r' s p := by
  unfold Dr at x
  exact (set_block x 1 r').trans (by simp)
theorem Dr.set2 (x : Dr w D l r s p) (s' : ByteArray) : Dr (w.setCell ⟨D, 2, none⟩ (.string s')) D l r s' p := by
  unfold Dr at x
  exact (set_block x 2 (.string s')).trans (by simp)
theorem Dr.set3 (x : Dr w D l r s p) (p' : Bool) : Dr (w.setCell ⟨D, 3, none⟩ (.bool p')) D l r s p' := by
  unfold Dr at x
  exact (set_block x 3 (.bool p')).trans (by simp)
end
theorem turn_set (w : World) (A j : Nat) (v : Value) : Turn (· = A) w (w.setCell ⟨A, j, none⟩ v) := ⟨rfl, rfl, rfl, Nat.le_of_eq (by simp), fun i _ hi => set_other _ _ _ _ hi⟩
/-- a row of texts, as cells -/
theorem row_cells {w : World} {B : Nat} {v : Value} {L : List ByteArray} (h : w.ownsRow B 9 1 v L.length (L.map Value.string)) (hn : L ≠ []) : ∃ g cap, v = .slice (some ⟨g, 0, none⟩) L.length cap ∧ L.length ≤ cap ∧ cap ≤ maxLen ∧ B ≤ g ∧ g < w.heap.size ∧ (∃ cur, w.heap[g]? = some (.cells cur 9 (0, 0))) ∧ ∀ j, j < L.length → w.cell? ⟨g, j, none⟩ = some (.string (L.getD j ⟨#[]⟩)) := by
  rcases h.2 with ⟨_, h0⟩ | ⟨g, cap, cur, rfl, hg, hgb, h1, h2, h3, h4⟩
  · exact absurd (List.length_eq_zero_iff.1 h0) hn
  · refine ⟨g, cap, rfl, h1, h2, hg, lt_of_block hgb, ⟨cur, hgb⟩, fun j hj => ?_⟩
    have hj' : (L.map Value.string)[j]? = some (.string (L.getD j ⟨#[]⟩)) := by
      rw [List.getElem?_map, List.getD_eq_getElem?_getD, List.getElem?_eq_getElem hj]; rfl
    rw [← h4, List.getElem?_take_of_lt (by omega)] at hj'
    rw [Lib.cell_of_heap hgb]
    simpa using hj'
set_option maxRecDepth 100000 in
set_option maxHeartbeats 2000000 in
/-- settleStatic, where every target matches and none is a pattern -/
theorem static_ok (D : Nat) (L : List ByteArray) (b off cap : Nat) (rv : Value) (st : ByteArray) (a : Nat) (cp : Nat) (w : World) (hD : Dr w D (.slice (some ⟨b, off, none⟩) L.length cap) rv ⟨#[]⟩ false) (hl : L.length ≤ 100000) (hb : b < w.heap.size) (hbD : b ≠ D) (hs : ∀ x ∈ L, x.size ≤ 1000000 ∧ (Pt.mt (tl st) (tl x)).2 = true ∧ Pt.opn (tl x) = false) (hc : ∀ j, j < L.length → w.cell? ⟨b, off + j, none⟩ = some (.string (L.getD j ⟨#[]⟩)))
    (hst : st.size ≤ 1000000) (ho : Pt.opn (tl st) = true) (ha : w.cell? ⟨a, 0, none⟩ = some (.string st)) (hal : a < w.heap.size) :
    Calls Tryz.prog 48 #[.pointer (some ⟨D, 0, none⟩), .slice (some ⟨a, 0, none⟩) 1 cp] w fun e w' => e = .returned .nilIface ∧ Dr w' D (.slice (some ⟨b, off, none⟩) L.length cap) rv st false ∧ Turn (· = D) w w' := by
  have d0 := hD.c0
  have d2 := hD.c2
  have f2 := hD.fz 2
  have kO := fun w => Pt.has_any st w
  rw [show Pt.opn (Pt.tl st) = true from ho] at kO
  have hD2 := hD.set2 st
  have hT2 := turn_set w D 2 (.string st)
  generalize hW : w.setCell ⟨D, 2, none⟩ (.string st) = W at hD2 hT2
  have HW := hide' hW
  have d02 := hD2.c0
  clear hW
  go_enter Tryz.func48, Tryz.ntmps48
  go_upto_region 4 with (go_at_call 67; refine (kO _).mono ?_; rintro e w1 ⟨rfl, rfl⟩)
  rw [HW.out]
  go_wp2
  go_loopw [37] (fun i wr => ∃ k : Nat, k ≤ L.length ∧ i = .int .i64 k ∧ Below W.heap.size W wr) (fun i _ => L.length - (intOf i).toNat)
  case atStart => exact ⟨0, Nat.zero_le _, rfl, Below.refl _ _⟩
  case round =>
    obtain ⟨k, hk, rfl, hB⟩ := hrel
    have hDr := hD2.below hB
    by_cases hlt : k < L.length
    · have hbW : b < W.heap.size := Nat.lt_of_lt_of_le hb hT2.size
      have cW : W.cell? ⟨b, off + k, none⟩ = some (.string (L.getD k ⟨#[]⟩)) := by
        have h9 := hT2.block b hb hbD
        have := hc k hlt
        simp only [World.cell?, h9] at this ⊢
        exact this
      have cc := (hB.cell (p := ⟨b, off + k, none⟩) hbW).trans cW
      have hx := hs (L.getD k ⟨#[]⟩) (by rw [List.getD_eq_getElem?_getD, List.getElem?_eq_getElem hlt]; exact List.getElem_mem hlt)
      generalize L.getD k ⟨#[]⟩ = x at cc hx
      have kM := fun w => Pt.pmatch_any st x w hst hx.1
      rw [show (Pt.mt (Pt.tl st) (Pt.tl x)).2 = true from hx.2.1] at kM
      have kH := fun w => Pt.has_any x w
      rw [show Pt.opn (Pt.tl x) = false from hx.2.2] at kH
      generalize Pt.mk (Pt.mt (Pt.tl st) (Pt.tl x)).1 = sm at kM
      have e2 := hDr.c2
      have HC := hide' hc
      have HS := hide' hs
      clear hc hs hx cW
      go_wp2_with (first | (go_at_call 68; refine (kM _).mono ?_; rintro e w3 ⟨rfl, hb3⟩) | (go_at_call 67; refine (kH _).mono ?_; rintro e w4 ⟨rfl, rfl⟩))
      exact ⟨⟨k + 1, by omega, by go_num, hB.trans (hb3.mono hB.size)⟩, by simp [intOf]; omega⟩
    · have HDr := hide' hDr
      clear hDr hc hs
      go_wp2
      go_ret
      exact ⟨rfl, HDr.out, hT2.trans (Turn.of_below (S := (· = D)) hB) fun _ h => .inl h⟩
end Go.Proofs.YthkjinhnnilalaaGreatDoor
