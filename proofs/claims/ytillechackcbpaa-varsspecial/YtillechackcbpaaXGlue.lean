/- The contract of text.glue: the texts of a list, one behind the other, with a text between each two. -/
import Derived.Test.YtillechackcbpaaXBuild
import Derived.Laws.AppendOwnNone
namespace Go.Proofs.Ytillechackcbpaa.Tx
open Go.RowKit Go.Shelf

/-- the texts of a list joined; f: is it the first one that comes? -/
def jr (sep : List UInt8) : Bool → List ByteArray → List UInt8
  | _, [] => []
  | f, x :: r => (if f then [] else sep) ++ (tl x ++ jr sep false r)
theorem jr_append (sep : List UInt8) (A B : List ByteArray) : ∀ f, jr sep f (A ++ B) = jr sep f A ++ jr sep (f && A.isEmpty) B := by
  induction A with
  | nil => intro f; simp [jr]
  | cons x r ih => intro f; simp [jr, ih]
theorem jr_take (sep : List UInt8) (L : List ByteArray) (k : Nat) (f : Bool) : (jr sep f (L.take k)).length ≤ (jr sep f L).length := by
  conv => rhs; rw [← List.take_append_drop k L, jr_append]
  simp
theorem jr_next (sep : List UInt8) (L : List ByteArray) (k : Nat) (h : k < L.length) : jr sep true (L.take (k + 1)) = jr sep true (L.take k) ++ ((if k = 0 then [] else sep) ++ tl (L.getD k ⟨#[]⟩)) := by
  rw [List.take_succ_eq_append_getElem h, jr_append, List.getD_eq_getElem?_getD, List.getElem?_eq_getElem h]
  have e : (L.take k).isEmpty = decide (k = 0) := by
    cases k with
    | zero => simp
    | succ k => cases L with
      | nil => simp at h
      | cons _ _ => simp
  rw [e]
  by_cases hk : k = 0 <;> simp [jr, hk]

set_option maxRecDepth 100000 in
set_option maxHeartbeats 1000000 in
theorem glue_some (sep : ByteArray) (L : List ByteArray) (b off cap : Nat) (w : World) (hl : L.length ≤ maxLen) (hb : b < w.heap.size) (hc : ∀ j, j < L.length → w.cell? ⟨b, off + j, none⟩ = some (.string (L.getD j ⟨#[]⟩)))
    (hj : (jr (tl sep) true L).length ≤ 140737488355328) :
    Calls Try.prog 64 #[.string sep, .slice (some ⟨b, off, none⟩) L.length cap] w fun e w' => e = .returned (.string ⟨(jr (tl sep) true L).toArray⟩) ∧ Below w.heap.size w w' := by
  unfold maxLen at hl
  have hb0 := Lib.fresh_isBuilder 101 5 w
  go_enter Try.func64, Try.ntmps64
  go_wp2
  go_loopw [10] (fun i wr => ∃ k : Nat, k ≤ L.length ∧ i = .int .i64 k ∧ Bld w.heap.size w.heap.size (jr (tl sep) true (L.take k)) wr ∧ Below w.heap.size w wr) (fun i _ => L.length - (intOf i).toNat)
  case atStart => exact ⟨0, Nat.zero_le _, rfl, hb0, (Below.refl _ w).alloc (Nat.le_refl _) _⟩
  case round =>
    obtain ⟨k, hk, rfl, hbl, hB⟩ := hrel
    have hsz := hB.size
    by_cases hlt : k < L.length
    · have c1 := (hB.cell (p := ⟨b, off + k, none⟩) hb).trans (hc k hlt)
      have hnx := jr_next (tl sep) L k hlt
      have htk := jr_take (tl sep) L (k + 1) true
      have hle : (jr (tl sep) true (L.take (k + 1))).length ≤ 140737488355328 := Nat.le_trans htk hj
      generalize L.getD k ⟨#[]⟩ = x at c1 hnx
      have htl : ∀ y : ByteArray, (tl y).length = y.size := fun y => (Lib.size_eq y).symm
      by_cases h0 : k = 0
      · rw [if_pos h0, List.nil_append] at hnx
        have hln : (jr (tl sep) true (L.take k)).length + x.size ≤ 140737488355328 := by rw [hnx, List.length_append, htl] at hle; exact hle
        have HN := hide' hnx
        clear hnx htk hle htl
        subst h0
        rw [Nat.add_zero] at c1
        generalize jr (tl sep) true (L.take 0) = P0 at hbl hln HN
        go_wp2_with (go_at_call 84; refine (write_any _ _ _ _ _ hbl hln hsz).mono ?_; rintro e w2 ⟨rfl, hb2, hB2⟩)
        exact ⟨⟨1, by omega, by go_num, by rw [HN.out]; exact hb2, hB.trans hB2⟩, by simp [intOf]; omega⟩
      · rw [if_neg h0, ← List.append_assoc] at hnx
        have hln : ((jr (tl sep) true (L.take k)) ++ tl sep).length + x.size ≤ 140737488355328 := by rw [hnx, List.length_append, htl x] at hle; exact hle
        have hln0 : (jr (tl sep) true (L.take k)).length + sep.size ≤ 140737488355328 := by rw [List.length_append, htl] at hln; omega
        have HN := hide' hnx
        have d0 : (0 : Int) < k := by omega
        clear hnx htk hle htl
        go_wp2_with fail
        refine (write_any _ _ _ _ _ hbl hln0 hsz).mono ?_
        rintro e w2 ⟨rfl, hb2, hB2⟩
        go_wp2_with fail
        refine (write_any _ _ _ _ _ hb2 hln (Nat.le_trans hsz hB2.size)).mono ?_
        rintro e w3 ⟨rfl, hb3, hB3⟩
        go_wp2
        exact ⟨⟨k + 1, by omega, by go_num, by rw [HN.out]; exact hb3, (hB.trans hB2).trans hB3⟩, by simp [intOf]; omega⟩
    · have hke : L.take k = L := List.take_of_length_le (by omega)
      rw [hke] at hbl
      clear hke
      go_wp2_with (go_at_call 85; refine (string_any _ _ _ _ hbl hsz).mono ?_; rintro e w2 ⟨rfl, hB2⟩)
      go_ret
      exact ⟨rfl, hB.trans hB2⟩

theorem glue_nil (sep : ByteArray) (a : Option Addr) (cap : Nat) (w : World) :
    Calls Try.prog 64 #[.string sep, .slice a 0 cap] w fun e w' => e = .returned (.string ⟨#[]⟩) ∧ Below w.heap.size w w' := by
  have hb0 := Lib.fresh_isBuilder 101 5 w
  go_enter Try.func64, Try.ntmps64
  go_wp2
  go_loopw [10] (fun i wr => i = .int .i64 0 ∧ Bld w.heap.size w.heap.size [] wr ∧ Below w.heap.size w wr) (fun _ _ => 0)
  case atStart => exact ⟨rfl, hb0, (Below.refl _ w).alloc (Nat.le_refl _) _⟩
  case round =>
    obtain ⟨rfl, hbl, hB⟩ := hrel
    have hsz := hB.size
    go_wp2_with (go_at_call 85; refine (string_any _ _ _ _ hbl hsz).mono ?_; rintro e w2 ⟨rfl, hB2⟩)
    go_ret
    exact ⟨rfl, hB.trans hB2⟩

theorem glue_any (sep : ByteArray) (L : List ByteArray) (v : Value) (w : World) (h : Strs w v L) (hj : (jr (tl sep) true L).length ≤ 140737488355328) :
    Calls Try.prog 64 #[.string sep, v] w fun e w' => e = .returned (.string ⟨(jr (tl sep) true L).toArray⟩) ∧ Below w.heap.size w w' := by
  rcases h with ⟨rfl, rfl⟩ | ⟨b, off, cap, rfl, h1, h2, h3, h4⟩
  · exact glue_nil sep none 0 w
  · exact glue_some sep L b off cap w (by omega) h3 h4 hj
/-- the slice v holds the texts L; without a text its address is whatever it is -/
def Strz (W : World) (v : Value) (L : List ByteArray) : Prop := (L = [] ∧ ∃ ad cap, v = .slice (some ad) 0 cap) ∨ Strs W v L
theorem Strz.below {W W' : World} {v : Value} {L : List ByteArray} (h : Strz W v L) (hb : Below W.heap.size W W') : Strz W' v L := by
  rcases h with h | h
  · exact .inl h
  · exact .inr (h.below hb)
theorem Strz.form {W : World} {v : Value} {L : List ByteArray} (h : Strz W v L) : (L = [] ∧ ∃ a cap, v = .slice a 0 cap) ∨
    (0 < L.length ∧ ∃ b off cap, v = .slice (some ⟨b, off, none⟩) L.length cap ∧ b < W.heap.size ∧ ∀ j, j < L.length → W.cell? ⟨b, off + j, none⟩ = some (.string (L.getD j ⟨#[]⟩))) := by
  rcases h with ⟨h, ad, cap, e⟩ | ⟨rfl, rfl⟩ | ⟨b, off, cap, rfl, h1, h2, h3, h4⟩
  · exact .inl ⟨h, some ad, cap, e⟩
  · exact .inl ⟨rfl, none, 0, rfl⟩
  · cases L with
    | nil => exact .inl ⟨rfl, _, cap, rfl⟩
    | cons x r => exact .inr ⟨by simp, b, off, cap, rfl, h3, h4⟩

theorem glue_anyz (sep : ByteArray) (L : List ByteArray) (v : Value) (w : World) (hl : L.length ≤ maxLen) (h : Strz w v L) (hj : (jr (tl sep) true L).length ≤ 140737488355328) :
    Calls Try.prog 64 #[.string sep, v] w fun e w' => e = .returned (.string ⟨(jr (tl sep) true L).toArray⟩) ∧ Below w.heap.size w w' := by
  rcases h.form with ⟨rfl, a, cap, rfl⟩ | ⟨_, b, off, cap, rfl, h3, h4⟩
  · exact glue_nil sep a cap w
  · exact glue_some sep L b off cap w hl h3 h4 hj

def tot : List ByteArray → Nat
  | [] => 0
  | x :: r => 1 + x.size + tot r
theorem row_form {W : World} {base : Nat} {e : TypeId} {m n : Nat} {v : Value} {xs : List Value} (h : W.ownsRow base e m v n xs) : ∃ a c, v = .slice a n c := by
  rcases h.2 with ⟨rfl, rfl⟩ | ⟨g, cap, _, rfl, _⟩
  · exact ⟨none, 0, rfl⟩
  · exact ⟨_, cap, rfl⟩
theorem conv_row {W : World} {base : Nat} {v : Value} {l : List UInt8} (h : W.ownsRow base 5 1 v l.length (Lib.byteCells l)) : (convert 48 9 v).run Try.prog W = .ok (.string ⟨l.toArray⟩) W := by
  have hh := h
  rcases h.2 with ⟨rfl, h0⟩ | ⟨g, cap, cur, rfl, _, _, _, _, _, _⟩
  · have e : l = [] := List.length_eq_zero_iff.1 h0
    subst e
    exact run_convert_bytes_nil W 48 5 Try.underlying48 Try.underlying5 0 0 9 Try.underlying9
  · refine run_convert_bytes_back W 48 9 5 ⟨g, 0, none⟩ cap l Try.underlying48 Try.underlying5 Try.underlying9 fun j hj => ?_
    refine hh.cells (g := g) rfl j _ ?_
    simp [Lib.byteCells, hj]
theorem grow_below {w W w1 : World} {base : Nat} {e : TypeId} {v : Value} {k : Nat} {xs : List Value} (hB : Below base w W) (hbase : base ≤ W.heap.size) (hrow : W.ownsRow base e 1 v k xs) (hgrow : W.grownBy w1 v.ownBlock) : Below base w w1 := by
  refine hB.grown hgrow hbase fun j ej => ?_
  rcases hrow.2 with ⟨rfl, _⟩ | ⟨g, cap, cur, rfl, hb, _, _⟩
  · simp [Value.ownBlock] at ej
  · obtain rfl : g = j := by simpa [Value.ownBlock] using ej
    exact hb
theorem row_alloc_below {w W w1 : World} {base : Nat} {e : TypeId} {v : Value} {k : Nat} {xs : List Value} {tmp : Obj} (hB : Below base w W) (hbase : base ≤ W.heap.size) (hrow : W.ownsRow base e 1 v k xs) (hgrow : (W.alloc tmp).grownBy w1 v.ownBlock) : Below base w w1 :=
  grow_below (hB.alloc hbase tmp) (by simp; omega) (hrow.alloc tmp) hgrow
theorem cells_str (P : List UInt8) (t : ByteArray) : Lib.byteCells (P ++ tl t) = Lib.byteCells P ++ Lib.strCells t := by simp [Lib.byteCells, Lib.strCells, tl]
theorem cells_one (P : List UInt8) (c : UInt8) : Lib.byteCells (P ++ [c]) = Lib.byteCells P ++ [.int .u8 c.toNat] := by simp [Lib.byteCells]
theorem len_str (P : List UInt8) (t : ByteArray) : (P ++ tl t).length = P.length + t.size := by rw [List.length_append, Lib.size_eq t]; rfl
end Go.Proofs.Ytillechackcbpaa.Tx
