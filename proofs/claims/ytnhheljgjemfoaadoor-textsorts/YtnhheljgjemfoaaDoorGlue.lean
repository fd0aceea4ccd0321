/- The contract of text.glue: the texts of a list, one behind the other, with a text between each two. -/
import Derived.Test.YtnhheljgjemfoaaDoorBas
import Derived.Test.YtnhheljgjemfoaaDoorLists
namespace Go.Proofs.YtnhheljgjemfoaaDoor
open Go.RowKit Go.Shelf

theorem lays166 : Lays.n166 Tryd.prog Tryd.lays155_ren := { Tryd.lays155 with }
/-- a builder of this call's own at block b, which holds the bytes l -/
abbrev Bld (B b : Nat) (l : List UInt8) (w : World) : Prop := Lib.IsBuilder 51 5 B b (Lib.byteCells l) w
theorem write_any (B b : Nat) (l : List UInt8) (s : ByteArray) (w : World) (h : Bld B b l w) (hlen : l.length + s.size ≤ 140737488355328) (hBw : B ≤ w.heap.size) :
    Calls Tryd.prog 31 #[.pointer (some ⟨b, 0, none⟩), .string s] w fun e w' => e = .returned (.tuple #[.int .i64 s.size, .nilIface]) ∧ Bld B b (l ++ tl s) w' ∧ Below B w w' :=
  (Any.Builder_WriteString lays166 Tryd.Builder_Extra_155 B b (Lib.byteCells l) s w h (by rw [Lib.byteCells_length]; exact hlen) hBw).mono fun e w' ⟨he, hb, hB⟩ => ⟨he, .inr (by
    have e1 : Lib.byteCells (l ++ tl s) = Lib.byteCells l ++ Lib.strCells s := by simp [Lib.byteCells, Lib.strCells, tl]
    rw [e1]; exact hb), hB⟩
theorem string_any (B b : Nat) (l : List UInt8) (w : World) (h : Bld B b l w) (hBw : B ≤ w.heap.size) :
    Calls Tryd.prog 32 #[.pointer (some ⟨b, 0, none⟩)] w fun e w' => e = .returned (.string ⟨l.toArray⟩) ∧ Below B w w' :=
  Tryd.Builder_String_any B b l w h hBw

/-- the texts of a list joined; f: is it the first one that comes? -/
def jr (sep : List UInt8) : Bool → List ByteArray → List UInt8
  | _, [] => []
  | f, x :: r => (if f then [] else sep) ++ (tl x ++ jr sep false r)
theorem jr_append (sep : List UInt8) (A B : List ByteArray) : ∀ f, jr sep f (A ++ B) = jr sep f A ++ jr sep (f && A.isEmpty) B := by
  induction A with
  | nil => intro f; simp [jr]
  | cons x r ih => intro f; simp [jr, ih]
theorem jr_take (sep : List UInt8) (L : List ByteArray) (k : Nat) (f : Bool) : (jr sep f (L.take k)).length ≤ (jr sep f L).length := by
  conv => rhs; rw [← List.take_append_drop k L, jr_append]
  simp
theorem jr_next (sep : List UInt8) (L : List ByteArray) (k : Nat) (h : k < L.length) : jr sep true (L.take (k + 1)) = jr sep true (L.take k) ++ ((if k = 0 then [] else sep) ++ tl (L.getD k ⟨#[]⟩)) := by
  rw [List.take_succ_eq_append_getElem h, jr_append, List.getD_eq_getElem?_getD, List.getElem?_eq_getElem h]
  have e : (L.take k).isEmpty = decide (k = 0) := by
    cases k with
    | zero => simp
    | succ k => cases L with
      | nil => simp at h
      | cons _ _ => simp
  rw [e]
  by_cases hk : k = 0 <;> simp [jr, hk]

set_option maxRecDepth 100000 in
set_option maxHeartbeats 1000000 in
theorem glue_some (sep : ByteArray) (L : List ByteArray) (b off cap : Nat) (w : World) (hl : L.length ≤ maxLen) (hb : b < w.heap.size) (hc : ∀ j, j < L.length → w.cell? ⟨b, off + j, none⟩ = some (.string (L.getD j ⟨#[]⟩)))
    (hj : (jr (tl sep) true L).length ≤ 140737488355328) :
    Calls Tryd.prog 22 #[.string sep, .slice (some ⟨b, off, none⟩) L.length cap] w fun e w' => e = .returned (.string ⟨(jr (tl sep) true L).toArray⟩) ∧ Below w.heap.size w w' := by
  unfold maxLen at hl
  have hb0 := Lib.fresh_isBuilder 51 5 w
  go_enter Tryd.func22, Tryd.ntmps22
  go_wp2
  go_loopw [10] (fun i wr => ∃ k : Nat, k ≤ L.length ∧ i = .int .i64 k ∧ Bld w.heap.size w.heap.size (jr (tl sep) true (L.take k)) wr ∧ Below w.heap.size w wr) (fun i _ => L.length - (intOf i).toNat)
  case atStart => exact ⟨0, Nat.zero_le _, rfl, hb0, (Below.refl _ w).alloc (Nat.le_refl _) _⟩
  case round =>
    obtain ⟨k, hk, rfl, hbl, hB⟩ := hrel
    have hsz := hB.size
    by_cases hlt : k < L.length
    · have c1 := (hB.cell (p := ⟨b, off + k, none⟩) hb).trans (hc k hlt)
      have hnx := jr_next (tl sep) L k hlt
      have htk := jr_take (tl sep) L (k + 1) true
      have hle : (jr (tl sep) true (L.take (k + 1))).length ≤ 140737488355328 := Nat.le_trans htk hj
      generalize L.getD k ⟨#[]⟩ = x at c1 hnx
      have htl : ∀ y : ByteArray, (tl y).length = y.size := fun y => (Lib.size_eq y).symm
      by_cases h0 : k = 0
      · rw [if_pos h0, List.nil_append] at hnx
        have hln : (jr (tl sep) true (L.take k)).length + x.size ≤ 140737488355328 := by rw [hnx, List.length_append, htl] at hle; exact hle
        have HN := hide' hnx
        clear hnx htk hle htl
        subst h0
        rw [Nat.add_zero] at c1
        generalize jr (tl sep) true (L.take 0) = P0 at hbl hln HN
        go_wp2_with (go_at_call 31; refine (write_any _ _ _ _ _ hbl hln hsz).mono ?_; rintro e w2 ⟨rfl, hb2, hB2⟩)
        exact ⟨⟨1, by omega, by go_num, by rw [HN.out]; exact hb2, hB.trans hB2⟩, by simp [intOf]; omega⟩
      · rw [if_neg h0, ← List.append_assoc] at hnx
        have hln : ((jr (tl sep) true (L.take k)) ++ tl sep).length + x.size ≤ 140737488355328 := by rw [hnx, List.length_append, htl x] at hle; exact hle
        have hln0 : (jr (tl sep) true (L.take k)).length + sep.size ≤ 140737488355328 := by rw [List.length_append, htl] at hln; omega
        have HN := hide' hnx
        have d0 : (0 : Int) < k := by omega
        clear hnx htk hle htl
        go_wp2_with fail
        refine (write_any _ _ _ _ _ hbl hln0 hsz).mono ?_
        rintro e w2 ⟨rfl, hb2, hB2⟩
        go_wp2_with fail
        refine (write_any _ _ _ _ _ hb2 hln (Nat.le_trans hsz hB2.size)).mono ?_
        rintro e w3 ⟨rfl, hb3, hB3⟩
        go_wp2
        exact ⟨⟨k + 1, by omega, by go_num, by rw [HN.out]; exact hb3, (hB.trans hB2).trans hB3⟩, by simp [intOf]; omega⟩
    · have hke : L.take k = L := List.take_of_length_le (by omega)
      rw [hke] at hbl
      clear hke
      go_wp2_with (go_at_call 32; refine (string_any _ _ _ _ hbl hsz).mono ?_; rintro e w2 ⟨rfl, hB2⟩)
      go_ret
      exact ⟨rfl, hB.trans hB2⟩

theorem glue_nil (sep : ByteArray) (a : Option Addr) (cap : Nat) (w : World) :
    Calls Tryd.prog 22 #[.string sep, .slice a 0 cap] w fun e w' => e = .returned (.string ⟨#[]⟩) ∧ Below w.heap.size w w' := by
  have hb0 := Lib.fresh_isBuilder 51 5 w
  go_enter Tryd.func22, Tryd.ntmps22
  go_wp2
  go_loopw [10] (fun i wr => i = .int .i64 0 ∧ Bld w.heap.size w.heap.size [] wr ∧ Below w.heap.size w wr) (fun _ _ => 0)
  case atStart => exact ⟨rfl, hb0, (Below.refl _ w).alloc (Nat.le_refl _) _⟩
  case round =>
    obtain ⟨rfl, hbl, hB⟩ := hrel
    have hsz := hB.size
    go_wp2_with (go_at_call 32; refine (string_any _ _ _ _ hbl hsz).mono ?_; rintro e w2 ⟨rfl, hB2⟩)
    go_ret
    exact ⟨rfl, hB.trans hB2⟩

theorem glue_any (sep : ByteArray) (L : List ByteArray) (v : Value) (w : World) (h : Strs w v L) (hj : (jr (tl sep) true L).length ≤ 140737488355328) :
    Calls Tryd.prog 22 #[.string sep, v] w fun e w' => e = .returned (.string ⟨(jr (tl sep) true L).toArray⟩) ∧ Below w.heap.size w w' := by
  rcases h with ⟨rfl, rfl⟩ | ⟨b, off, cap, rfl, h1, h2, h3, h4⟩
  · exact glue_nil sep none 0 w
  · exact glue_some sep L b off cap w (by omega) h3 h4 hj
end Go.Proofs.YtnhheljgjemfoaaDoor
