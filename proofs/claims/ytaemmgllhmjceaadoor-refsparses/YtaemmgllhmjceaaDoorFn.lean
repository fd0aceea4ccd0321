/- The functions' names and bounds; how they lie in memory. -/
import Derived.Test.YtaemmgllhmjceaaDoorPlain
import Derived.Test.YtaemmgllhmjceaaDoorMem
namespace Go.Proofs.YtaemmgllhmjceaaDoor
open Go.RowKit

abbrev Fn := Bs × Int × Int
/-- the functions: a name, the least and the greatest number of arguments -/
def fnL : List Fn := [
  ([97, 98, 115, 112, 97, 116, 104], 1, 1),
  ([97, 100, 100, 112, 114, 101, 102, 105, 120], 2, 2),
  ([97, 100, 100, 115, 117, 102, 102, 105, 120], 2, 2),
  ([97, 110, 100], 1, -1),
  ([98, 97, 115, 101, 110, 97, 109, 101], 1, 1),
  ([99, 97, 108, 108], 1, -1),
  ([100, 105, 114], 1, 1),
  ([101, 114, 114, 111, 114], 1, 1),
  ([101, 118, 97, 108], 1, 1),
  ([102, 105, 108, 116, 101, 114], 2, 2),
  ([102, 105, 108, 116, 101, 114, 45, 111, 117, 116], 2, 2),
  ([102, 105, 110, 100, 115, 116, 114, 105, 110, 103], 2, 2),
  ([102, 105, 114, 115, 116, 119, 111, 114, 100], 1, 1),
  ([102, 108, 97, 118, 111, 114], 1, 1),
  ([102, 111, 114, 101, 97, 99, 104], 3, 3),
  ([105, 102], 2, 3),
  ([105, 110, 102, 111], 1, 1),
  ([106, 111, 105, 110], 2, 2),
  ([108, 97, 115, 116, 119, 111, 114, 100], 1, 1),
  ([110, 111, 116, 100, 105, 114], 1, 1),
  ([111, 114], 1, -1),
  ([111, 114, 105, 103, 105, 110], 1, 1),
  ([112, 97, 116, 115, 117, 98, 115, 116], 3, 3),
  ([115, 104, 101, 108, 108], 1, 1),
  ([115, 111, 114, 116], 1, 1),
  ([115, 116, 114, 105, 112], 1, 1),
  ([115, 117, 98, 115, 116], 3, 3),
  ([115, 117, 102, 102, 105, 120], 1, 1),
  ([118, 97, 108, 117, 101], 1, 1),
  ([119, 97, 114, 110, 105, 110, 103], 1, 1),
  ([119, 105, 108, 100, 99, 97, 114, 100], 1, 1),
  ([119, 111, 114, 100], 2, 2),
  ([119, 111, 114, 100, 108, 105, 115, 116], 3, 3),
  ([119, 111, 114, 100, 115], 1, 1)]
/-- the k-th -/
def fnAt (k : Nat) : Fn := fnL.getD k ([], 0, 0)
theorem fn_len : fnL.length = 34 := by decide
/-- its name, as a text -/
def nmA (k : Nat) : ByteArray := mk (fnAt k).1
theorem tl_nm (k : Nat) : tl (nmA k) = (fnAt k).1 := tl_mk _
def cellsF (f : Fn) : List Value := [.string (mk f.1), .int .i64 f.2.1, .int .i64 f.2.2]
def flatF (l : List Fn) : List Value := l.flatMap cellsF
theorem flatF_at : ∀ (l : List Fn) (k : Nat), k < l.length → (flatF l)[k * 3]? = some (.string (mk (l.getD k ([], 0, 0)).1)) ∧ (flatF l)[k * 3 + 1]? = some (.int .i64 (l.getD k ([], 0, 0)).2.1) ∧ (flatF l)[k * 3 + 2]? = some (.int .i64 (l.getD k ([], 0, 0)).2.2)
  | [], k, h => by simp at h
  | f :: r, 0, _ => ⟨rfl, rfl, rfl⟩
  | f :: r, k + 1, h => by
    have e : flatF (f :: r) = cellsF f ++ flatF r := rfl
    have hl : (cellsF f).length = 3 := rfl
    have ih := flatF_at r k (by simpa using h)
    rw [e, List.getElem?_append_right (by omega), List.getElem?_append_right (by omega), List.getElem?_append_right (by omega), hl,
      show (k + 1) * 3 - 3 = k * 3 by omega, show (k + 1) * 3 + 1 - 3 = k * 3 + 1 by omega, show (k + 1) * 3 + 2 - 3 = k * 3 + 2 by omega]
    exact ih
/-- the block b holds the functions -/
structure FnsAt (w : World) (b : Nat) : Prop where
  lt : b < w.heap.size
  name : ∀ k, k < 34 → w.cell? ⟨b, k * 3, none⟩ = some (.string (nmA k))
  least : ∀ k, k < 34 → w.cell? ⟨b, k * 3 + 1, none⟩ = some (.int .i64 (fnAt k).2.1)
  most : ∀ k, k < 34 → w.cell? ⟨b, k * 3 + 2, none⟩ = some (.int .i64 (fnAt k).2.2)
theorem FnsAt.below {w w' : World} {b : Nat} (h : FnsAt w b) (hb : Below w.heap.size w w') : FnsAt w' b :=
  ⟨Nat.lt_of_lt_of_le h.lt hb.size, fun k hk => (hb.cell (p := ⟨b, k * 3, none⟩) h.lt).trans (h.name k hk), fun k hk => (hb.cell (p := ⟨b, k * 3 + 1, none⟩) h.lt).trans (h.least k hk), fun k hk => (hb.cell (p := ⟨b, k * 3 + 2, none⟩) h.lt).trans (h.most k hk)⟩
theorem FnsAt.low {w w' : World} {b B : Nat} (h : FnsAt w b) (hB : b < B) (hb : Below B w w') : FnsAt w' b :=
  ⟨Nat.lt_of_lt_of_le h.lt hb.size, fun k hk => (hb.cell (p := ⟨b, k * 3, none⟩) hB).trans (h.name k hk), fun k hk => (hb.cell (p := ⟨b, k * 3 + 1, none⟩) hB).trans (h.least k hk), fun k hk => (hb.cell (p := ⟨b, k * 3 + 2, none⟩) hB).trans (h.most k hk)⟩
theorem FnsAt.of_cells {w : World} {b : Nat} {t : TypeId} {f : Nat × Nat} (h : w.heap[b]? = some (.cells (flatF fnL).toArray t f)) : FnsAt w b := by
  have key : ∀ j, w.cell? ⟨b, j, none⟩ = (flatF fnL)[j]? := fun j => by rw [Lib.cell_of_heap h]; simp
  refine ⟨lt_of_block h, fun k hk => ?_, fun k hk => ?_, fun k hk => ?_⟩ <;> rw [key]
  · exact (flatF_at fnL k (by rw [fn_len]; exact hk)).1
  · exact (flatF_at fnL k (by rw [fn_len]; exact hk)).2.1
  · exact (flatF_at fnL k (by rw [fn_len]; exact hk)).2.2
/-- the function of a name -/
def fnd (n : Bs) : Option Fn := fnL.find? (fun f => f.1 == n)
def fnF : Option Fn → Fn
  | some f => f
  | none => ([], 0, 0)
theorem fn_once : ((List.range 34).all fun i => (List.range 34).all fun j => !((fnAt i).1 == (fnAt j).1) || i == j) = true := by decide +kernel
theorem fn_inj (i j : Nat) (hi : i < 34) (hj : j < 34) (h : (fnAt i).1 = (fnAt j).1) : i = j := by
  have h1 := List.all_eq_true.1 (List.all_eq_true.1 fn_once i (List.mem_range.2 hi)) j (List.mem_range.2 hj)
  simpa [h] using h1
theorem fn_mem (k : Nat) (hk : k < 34) : fnAt k ∈ fnL := by
  unfold fnAt
  rw [List.getD_eq_getElem?_getD, List.getElem?_eq_getElem (by rw [fn_len]; exact hk)]
  exact List.getElem_mem _
theorem mem_fn (f : Fn) (h : f ∈ fnL) : ∃ k, k < 34 ∧ f = fnAt k := by
  obtain ⟨k, hk, e⟩ := List.mem_iff_getElem.1 h
  refine ⟨k, by rw [fn_len] at hk; exact hk, ?_⟩
  unfold fnAt
  rw [List.getD_eq_getElem?_getD, List.getElem?_eq_getElem hk]
  exact e.symm
theorem fnd_yes (n : Bs) (k : Nat) (hk : k < 34) (h : (fnAt k).1 = n) : fnd n = some (fnAt k) := by
  cases hf : fnd n with
  | none =>
    unfold fnd at hf
    exact absurd (by simpa using h) (List.find?_eq_none.1 hf _ (fn_mem k hk))
  | some g =>
    unfold fnd at hf
    obtain ⟨j, hj, rfl⟩ := mem_fn g (List.mem_of_find?_eq_some hf)
    have h2 := List.find?_some hf
    have h3 : (fnAt j).1 = n := by simpa using h2
    rw [fn_inj k j hk hj (h.trans h3.symm)]
theorem fnd_no (n : Bs) (h : ∀ k, k < 34 → ¬ (fnAt k).1 = n) : fnd n = none := by
  unfold fnd
  rw [List.find?_eq_none]
  intro f hf
  obtain ⟨k, hk, rfl⟩ := mem_fn f hf
  simpa using h k hk
theorem fn_short : ((List.range 34).all fun i => decide ((fnAt i).1.length ≤ 10) && !((fnAt i).1.any bl) && decide (-1 ≤ (fnAt i).2.2) && decide ((fnAt i).2.2 ≤ 3) && decide (-1 ≤ (fnAt i).2.1) && decide ((fnAt i).2.1 ≤ 3) && !decide ((fnAt i).2.2 = 0)) = true := by decide +kernel
theorem fn_small (i : Nat) (hi : i < 34) : (fnAt i).1.length ≤ 10 ∧ (fnAt i).1.any bl = false ∧ -1 ≤ (fnAt i).2.2 ∧ (fnAt i).2.2 ≤ 3 ∧ ¬ (fnAt i).2.2 = 0 := by
  have h1 := List.all_eq_true.1 fn_short i (List.mem_range.2 hi)
  simp only [Bool.and_eq_true, decide_eq_true_eq, Bool.not_eq_true', decide_eq_false_iff_not] at h1
  exact ⟨h1.1.1.1.1.1.1, h1.1.1.1.1.1.2, h1.1.1.1.1.2, h1.1.1.1.2, h1.2⟩
end Go.Proofs.YtaemmgllhmjceaaDoor
