/- A row of texts turned one by one; the words of a text, how much they hold. -/
import Derived.Test.YtillechackcbpaaZIdx
namespace Go.Proofs.Ytillechackcbpaa.Sp
open Go.RowKit Go.Shelf Go.Proofs.Ytillechackcbpaa.Pa

/-- the block g holds the texts M at its beginning -/
def Rowz (W : World) (g : Nat) (M : List ByteArray) : Prop := ∃ cur, W.heap[g]? = some (.cells cur 9 (0, 0)) ∧ cur.toList.take M.length = M.map Value.string
theorem Rowz.lt {W : World} {g : Nat} {M : List ByteArray} (h : Rowz W g M) : g < W.heap.size := by obtain ⟨c, h, _⟩ := h; exact lt_of_block h
theorem Rowz.fz {W : World} {g : Nat} {M : List ByteArray} (h : Rowz W g M) (j : Nat) : W.frozen? ⟨g, j, none⟩ = false := by obtain ⟨c, h, _⟩ := h; exact Lib.frozen_of_heap h j
theorem Rowz.cell {W : World} {g : Nat} {M : List ByteArray} (h : Rowz W g M) {j : Nat} (hj : j < M.length) : W.cell? ⟨g, j, none⟩ = some (.string (M.getD j ⟨#[]⟩)) := by
  obtain ⟨cur, h1, h2⟩ := h
  have h3 : (M.map Value.string)[j]? = some (.string (M.getD j ⟨#[]⟩)) := by
    rw [List.getElem?_map, List.getD_eq_getElem?_getD, List.getElem?_eq_getElem hj]; rfl
  rw [← h2, List.getElem?_take_of_lt hj] at h3
  rw [Lib.cell_of_heap h1]
  simpa using h3
theorem Rowz.below {W W' : World} {g : Nat} {M : List ByteArray} (h : Rowz W g M) (hb : Below W.heap.size W W') : Rowz W' g M := by
  have hl := h.lt
  obtain ⟨c, h1, h2⟩ := h
  exact ⟨c, (hb.block g hl).trans h1, h2⟩
theorem Rowz.set {W : World} {g : Nat} {M : List ByteArray} (h : Rowz W g M) (j : Nat) (x : ByteArray) : Rowz (W.setCell ⟨g, j, none⟩ (.string x)) g (M.set j x) := by
  obtain ⟨c, h1, h2⟩ := h
  refine ⟨_, set_row h1 j _, ?_⟩
  rw [List.length_set, Array.toList_setIfInBounds, List.take_set, h2, List.map_set]
theorem Rowz.of_row {W : World} {base : Nat} {v : Value} {L : List ByteArray} (h : W.ownsRow base 9 1 v L.length (L.map Value.string)) : (v = .slice none 0 0 ∧ L = []) ∨ ∃ g cap, v = .slice (some ⟨g, 0, none⟩) L.length cap ∧ base ≤ g ∧ L.length ≤ cap ∧ cap ≤ maxLen ∧ Rowz W g L := by
  rcases h.2 with ⟨rfl, h0⟩ | ⟨g, cap, cur, rfl, hg, hgb, h1, h2, h3, h4⟩
  · exact .inl ⟨rfl, List.length_eq_zero_iff.1 h0⟩
  · exact .inr ⟨g, cap, rfl, hg, h1, h2, cur, hgb, by simpa using h4⟩
theorem Rowz.strs {W : World} {g cap : Nat} {M : List ByteArray} (h : Rowz W g M) (h1 : M.length ≤ cap) (h2 : cap ≤ maxLen) : Tx.Strz W (.slice (some ⟨g, 0, none⟩) M.length cap) M :=
  .inr (.inr ⟨g, 0, cap, rfl, h1, h2, h.lt, fun j hj => by rw [Nat.zero_add]; exact h.cell hj⟩)
/-- a text turned -/
def tx (f : List UInt8 → List UInt8) (x : ByteArray) : ByteArray := mk (f (tl x))
/-- the first k of a list turned -/
def tu (f : List UInt8 → List UInt8) (L : List ByteArray) (k : Nat) : List ByteArray := (L.take k).map (tx f) ++ L.drop k
theorem tu_len (f : List UInt8 → List UInt8) (L : List ByteArray) (k : Nat) : (tu f L k).length = L.length := by
  unfold tu; rw [List.length_append, List.length_map, List.length_take, List.length_drop]; omega
theorem tu_get (f : List UInt8 → List UInt8) (L : List ByteArray) (k : Nat) (h : k < L.length) : (tu f L k).getD k ⟨#[]⟩ = L.getD k ⟨#[]⟩ := by
  have hl : ((L.take k).map (tx f)).length = k := by rw [List.length_map, List.length_take]; omega
  unfold tu
  rw [List.getD_eq_getElem?_getD, List.getElem?_append_right (by omega), hl, Nat.sub_self, List.getElem?_drop, List.getD_eq_getElem?_getD, Nat.add_zero]
theorem tu_set (f : List UInt8 → List UInt8) (L : List ByteArray) (k : Nat) (h : k < L.length) : (tu f L k).set k (tx f (L.getD k ⟨#[]⟩)) = tu f L (k + 1) := by
  have hl : ((L.take k).map (tx f)).length = k := by rw [List.length_map, List.length_take]; omega
  unfold tu
  rw [List.set_append_right _ _ (by omega), hl, Nat.sub_self, List.drop_eq_getElem_cons h, List.set_cons_zero, List.take_add_one, List.map_append, List.append_assoc, List.getD_eq_getElem?_getD, List.getElem?_eq_getElem h]
  rfl
theorem tu_end (f : List UInt8 → List UInt8) (L : List ByteArray) (k : Nat) (h : L.length ≤ k) : tu f L k = L.map (tx f) := by
  unfold tu; rw [List.take_of_length_le h, List.drop_eq_nil_of_le h, List.append_nil]
/-- the words of a text -/
def wds (l : List UInt8) : List ByteArray := (Tx.words l).map mk
theorem wds_of {l : List UInt8} {L : List ByteArray} (h : L.map tl = Tx.words l) : L = wds l := by
  unfold wds
  rw [← h, List.map_map]
  have : (mk ∘ tl) = id := funext mk_tl
  rw [this, List.map_id]
theorem tot_wgo : ∀ (l cur : List UInt8), Tx.tot ((Tx.wgo cur l).map mk) ≤ cur.length + l.length + 1
  | [], cur => by
    unfold Tx.wgo
    split
    · simp [Tx.tot]
    · simp only [List.map_cons, List.map_nil, Tx.tot, mk_size]; simp; omega
  | c :: r, cur => by
    unfold Tx.wgo
    have h1 := tot_wgo r []
    have h2 := tot_wgo r (cur ++ [c])
    rw [List.length_append] at h2
    simp only [List.length_cons, List.length_nil] at h1 h2 ⊢
    split
    · split
      · omega
      · simp only [List.map_cons, Tx.tot, mk_size]; omega
    · omega
theorem tot_wds (l : List UInt8) : Tx.tot (wds l) ≤ l.length + 1 := by have := tot_wgo l []; simp at this; exact this
theorem len_wds (l : List UInt8) : (wds l).length ≤ l.length := by unfold wds; rw [List.length_map]; exact Tx.words_len l
theorem size_wds (l : List UInt8) (x : ByteArray) (h : x ∈ wds l) : x.size ≤ l.length := by
  unfold wds at h
  obtain ⟨y, hy, rfl⟩ := List.mem_map.1 h
  rw [mk_size]
  exact Tx.words_short l y hy
theorem tot_map (f : List UInt8 → List UInt8) (hf : ∀ l, (f l).length ≤ l.length + 1) : ∀ L : List ByteArray, Tx.tot (L.map (tx f)) ≤ Tx.tot L + L.length
  | [] => by simp [Tx.tot]
  | x :: r => by
    have h1 := tot_map f hf r
    have h2 := hf (tl x)
    rw [tl_len] at h2
    simp only [List.map_cons, Tx.tot, List.length_cons]
    have h3 : (tx f x).size = (f (tl x)).length := mk_size _
    omega
/-- the words of a text, each turned, joined -/
def spW (f : List UInt8 → List UInt8) (l : List UInt8) : ByteArray := ⟨(Tx.jn ((wds l).map (tx f))).toArray⟩
end Go.Proofs.Ytillechackcbpaa.Sp
