/- Plain lists, of no walk: which words of a list stay; and texts in memory by their address alone. -/
import Derived.Test.YtbegdhbpcgflkaaLent
namespace Go.Proofs.Ytbegdhbpcgflkaa
open Go.RowKit Go.Shelf

/-- does one of the patterns match? -/
def ay (PS : List ByteArray) (x : ByteArray) : Bool := PS.any (fun p => (mt (tl p) (tl x)).2)
/-- the words that stay -/
def flt (PS : List ByteArray) (o : Bool) (L : List ByteArray) : List ByteArray := L.filter (fun x => ay PS x != o)
theorem take_next (L : List ByteArray) (k : Nat) (h : k < L.length) : L.take (k + 1) = L.take k ++ [L.getD k ⟨#[]⟩] := by
  rw [List.take_succ_eq_append_getElem h, List.getD_eq_getElem?_getD, List.getElem?_eq_getElem h]; rfl
theorem ay_next (PS : List ByteArray) (j : Nat) (x : ByteArray) (h : j < PS.length) : ay (PS.take (j + 1)) x = (ay (PS.take j) x || (mt (tl (PS.getD j ⟨#[]⟩)) (tl x)).2) := by
  unfold ay
  rw [take_next PS j h, List.any_append]
  simp
theorem ay_true (PS : List ByteArray) (j : Nat) (x : ByteArray) (h : true = ay (PS.take j) x) : true = ay PS x := by
  unfold ay at h ⊢
  rw [eq_comm, List.any_eq_true] at h ⊢
  obtain ⟨p, hp, e⟩ := h
  exact ⟨p, List.mem_of_mem_take hp, e⟩
theorem flt_yes (PS : List ByteArray) (o : Bool) (L : List ByteArray) (k : Nat) (h : k < L.length) (hx : (ay PS (L.getD k ⟨#[]⟩) != o) = true) : flt PS o (L.take (k + 1)) = flt PS o (L.take k) ++ [L.getD k ⟨#[]⟩] := by
  unfold flt
  rw [take_next L k h, List.filter_append]
  simp only [List.filter, hx]
theorem flt_no (PS : List ByteArray) (o : Bool) (L : List ByteArray) (k : Nat) (h : k < L.length) (hx : (ay PS (L.getD k ⟨#[]⟩) != o) = false) : flt PS o (L.take (k + 1)) = flt PS o (L.take k) := by
  unfold flt
  rw [take_next L k h, List.filter_append]
  simp only [List.filter, hx, List.append_nil]
theorem flt_len (PS : List ByteArray) (o : Bool) (L : List ByteArray) : (flt PS o L).length ≤ L.length := List.length_filter_le _ _
theorem flt_all (PS : List ByteArray) (o : Bool) (L : List ByteArray) (k : Nat) (h : ¬ k < L.length) : flt PS o (L.take k) = flt PS o L := by rw [List.take_of_length_le (by omega)]
theorem flt_two (PS : List ByteArray) (L : List ByteArray) : (flt PS false L).length + (flt PS true L).length = L.length := by
  induction L with
  | nil => rfl
  | cons x r ih =>
    unfold flt at ih ⊢
    cases h : ay PS x
    · simp only [List.filter, h, Bool.bne_true, Bool.bne_false, Bool.not_false, List.length_cons] at ih ⊢; omega
    · simp only [List.filter, h, Bool.bne_true, Bool.bne_false, Bool.not_true, List.length_cons] at ih ⊢; omega

/-- texts at an address, one behind the other -/
def Txt (W : World) (a : Option Addr) (L : List ByteArray) : Prop := ∀ k, k < L.length → ∃ b off, a = some ⟨b, off, none⟩ ∧ b < W.heap.size ∧ W.cell? ⟨b, off + k, none⟩ = some (.string (L.getD k ⟨#[]⟩))
theorem Txt.below {W W' : World} {a : Option Addr} {L : List ByteArray} (h : Txt W a L) (hb : Below W.heap.size W W') : Txt W' a L := fun k hk => by
  obtain ⟨b, off, e, h1, h2⟩ := h k hk
  exact ⟨b, off, e, Nat.lt_of_lt_of_le h1 hb.size, (hb.cell (p := ⟨b, off + k, none⟩) h1).trans h2⟩
theorem Strz.txt {W : World} {v : Value} {L : List ByteArray} (h : Strz W v L) : ∃ a cap, v = .slice a L.length cap ∧ Txt W a L := by
  rcases h.form with ⟨rfl, a, cap, rfl⟩ | ⟨_, b, off, cap, rfl, h3, h4⟩
  · exact ⟨a, cap, rfl, fun k hk => by simp at hk⟩
  · exact ⟨_, cap, rfl, fun k hk => ⟨b, off, rfl, h3, h4 k hk⟩⟩
end Go.Proofs.Ytbegdhbpcgflkaa
