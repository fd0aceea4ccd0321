/- A variable and a store in memory: its own block, the map of its variables; what a look-up, a store and a deletion do. -/
import Derived.Test.YtillechackcbpaaMem
namespace Go.Proofs.Ytillechackcbpaa
open Go.RowKit Go.Maps

/-- a variable as a value -/
def vV (v : Vr) : Value := .agg #[.string (mk v.name), .string (mk v.value), .int .i64 v.flav, .int .i64 v.origin, .int .i64 v.exp]
/-- how a variable in a map reads -/
def rowElem : List Value → Option (DataW Unit × List MemPlace)
  | [.string n, .string v, .int .i64 f, .int .i64 o, .int .i64 e] => some (.agg [.lit (.string n.data.toList), .lit (.string v.data.toList), .lit (.int .i64 f), .lit (.int .i64 o), .lit (.int .i64 e)], [])
  | _ => none
def varElem : Value → Option (DataW Unit × List MemPlace)
  | .agg c => rowElem c.toList
  | _ => none
theorem varElem_vV (v : Vr) : varElem (vV v) = some (dV v, []) := by
  simp [varElem, rowElem, vV, dV]
theorem rowElem_inv {x : List Value} {v : Vr} {ps : List MemPlace} (h : rowElem x = some (dV v, ps)) : x = [.string (mk v.name), .string (mk v.value), .int .i64 v.flav, .int .i64 v.origin, .int .i64 v.exp] := by
  unfold rowElem at h
  split at h
  · rename_i n u f o e
    simp only [dV, Option.some.injEq, Prod.mk.injEq, DataW.agg.injEq, List.cons.injEq, DataW.lit.injEq, Lit.string.injEq, Lit.int.injEq, true_and, and_true] at h
    obtain ⟨⟨h1, h2, h3, h4, h5⟩, _⟩ := h
    have e1 : n = mk v.name := tl_inj _ _ (by rw [tl_mk]; exact h1)
    have e2 : u = mk v.value := tl_inj _ _ (by rw [tl_mk]; exact h2)
    rw [e1, e2, h3, h4, h5]
  · cases h
theorem varElem_inv {x : Value} {v : Vr} {ps : List MemPlace} (h : varElem x = some (dV v, ps)) : x = vV v := by
  unfold varElem at h
  split at h
  · rename_i c
    have := rowElem_inv h
    obtain ⟨l⟩ := c
    simp only at this
    rw [this]; rfl
  · cases h
/-- what lies at a name, or a variable of nothing -/
def getV (L : Vs) (p : Bs) : Vr := (fnd L p).getD zeroVr

theorem key9 : Keyed Try.prog 9 := string_keyed Try.underlying9
theorem zero36 (w : World) : (zeroValue 36).run Try.prog w = .ok (vV zeroVr) w := by kernel_rfl
theorem keyOf9 (p : Bs) (h : p.length ≤ maxLen) : keyOf Try.prog 9 (.string (mk p)) = some (.string p) := by
  have := Go.WideMaps.keyOf_string_mk (P := Try.prog) Try.underlying9 (s := mk p) (by rw [mk_size]; exact h)
  simpa using this
def Mp (w : World) (M : Nat) (L : Vs) : Prop := w.ownsMap Try.prog 9 varElem M L.length (datum L)
theorem Mp.look {w : World} {M : Nat} {L : Vs} (h : Mp w M L) (p : Bs) (hp : p.length ≤ maxLen) : (Instr.lookup 50 (.map (some M)) (.string (mk p)) false).run Try.prog w = .ok (vV (getV L p)) w := by
  obtain ⟨v, ps, hr, hv⟩ := World.ownsMap.lookup h key9 Try.underlying50 (zero36 w) (varElem_vV zeroVr) (keyOf9 p hp)
  rw [hr]
  rw [datum_at] at hv
  unfold getV
  cases ho : fnd L p with
  | none => rw [ho] at hv; rw [varElem_inv hv]; rfl
  | some e => rw [ho] at hv; rw [varElem_inv hv]; rfl
theorem Mp.look2 {w : World} {M : Nat} {L : Vs} (h : Mp w M L) (p : Bs) (hp : p.length ≤ maxLen) : (Instr.lookup 50 (.map (some M)) (.string (mk p)) true).run Try.prog w = .ok (.tuple #[vV (getV L p), .bool (fnd L p).isSome]) w := by
  obtain ⟨v, ps, hr, hv⟩ := World.ownsMap.look_ok h key9 Try.underlying50 (zero36 w) (varElem_vV zeroVr) (keyOf9 p hp)
  rw [hr, datum_has]
  rw [datum_at] at hv
  unfold getV
  cases ho : fnd L p with
  | none => rw [ho] at hv; rw [varElem_inv hv]; rfl
  | some e => rw [ho] at hv; rw [varElem_inv hv]; rfl
theorem Mp.tight {w : World} {M n : Nat} {L : Vs} (h : w.ownsMap Try.prog 9 varElem M n (datum L)) : Mp w M L := by
  have hz := datum_size (H := Unit) L
  obtain ⟨es, clock, hb, F, hs, hD⟩ := h
  refine ⟨es, clock, hb, F, ?_, hD⟩
  rw [hD] at hz
  simp only [Maps.size, length_sorted, List.length_map, Array.length_toList] at hz
  omega
theorem Mp.lt {w : World} {M : Nat} {L : Vs} (h : Mp w M L) : M < w.heap.size := World.ownsMap.lt h
theorem Mp.isMap {w : World} {M : Nat} {L : Vs} (h : Mp w M L) : ∃ es c, w.heap[M]? = some (.map es c) := by obtain ⟨es, c, hb, _⟩ := h; exact ⟨es, c, hb⟩
theorem Mp.kept {w w' : World} {M : Nat} {L : Vs} (h : Mp w M L) (hk : w'.heap[M]? = w.heap[M]?) : Mp w' M L := by
  obtain ⟨es, clock, hb, r⟩ := h
  exact ⟨es, clock, hk.trans hb, r⟩
theorem Mp.put {w : World} {M : Nat} {L : Vs} (h : Mp w M L) (hn : L.length ≤ 1000000) (p : Bs) (hp : p.length ≤ maxLen) (e : Vr) :
    ∃ w', (Instr.mapUpdate 50 (.map (some M)) (.string (mk p)) (vV e)).run Try.prog w = .ok () w' ∧ Mp w' M (Ytillechackcbpaa.put L p e) ∧ w.grownBy w' (some M) := by
  obtain ⟨w', hr, h1, h2⟩ := World.ownsMap.update h key9 Try.underlying50 (by unfold maxLen; omega) (keyOf9 p hp) (varElem_vV e)
  rw [datum_put] at h1
  exact ⟨w', hr, Mp.tight h1, h2⟩
theorem Mp.del {w : World} {M : Nat} {L : Vs} (h : Mp w M L) (p : Bs) (hp : p.length ≤ maxLen) (ty : TypeId) :
    ∃ w', (Builtin.delete_ #[50, 9] ty #[.map (some M), .string (mk p)]).run Try.prog w = .ok (.tuple #[]) w' ∧ Mp w' M (Ytillechackcbpaa.del L p) ∧ w.grownBy w' (some M) := by
  obtain ⟨w', hr, h1, h2⟩ := World.ownsMap.drop h key9 Try.underlying50 (keyOf9 p hp) ty
  rw [datum_del] at h1
  exact ⟨w', hr, Mp.tight h1, h2.grown⟩
theorem Mp.len {w : World} {M : Nat} {L : Vs} (h : Mp w M L) (ty : TypeId) : (Builtin.len_ #[50] ty #[.map (some M)]).run Try.prog w = .ok (.int .i64 L.length) w := by
  rw [World.ownsMap.len h Try.underlying50 ty, datum_size]
theorem Mp.made (w : World) : Mp (w.alloc (.map #[] 0)) w.heap.size [] := World.ownsMap_made w Try.prog 9 varElem

/- a map that is not there -/
theorem nil_look (w : World) (p : Bs) (hp : p.length ≤ maxLen) : (Instr.lookup 50 (.map none) (.string (mk p)) false).run Try.prog w = .ok (vV zeroVr) w := by
  have := Maps.look_nil (c := false) key9 Try.underlying50 (zero36 w) (keyOf9 p hp)
  simpa using this
theorem nil_look2 (w : World) (p : Bs) (hp : p.length ≤ maxLen) : (Instr.lookup 50 (.map none) (.string (mk p)) true).run Try.prog w = .ok (.tuple #[vV zeroVr, .bool false]) w := by
  have := Maps.look_nil (c := true) key9 Try.underlying50 (zero36 w) (keyOf9 p hp)
  simpa using this
theorem nil_del (w : World) (p : Bs) (hp : p.length ≤ maxLen) (ty : TypeId) : (Builtin.delete_ #[50, 9] ty #[.map none, .string (mk p)]).run Try.prog w = .ok (.tuple #[]) w := Maps.drop_nil key9 Try.underlying50 (keyOf9 p hp) ty
theorem nil_len (w : World) (ty : TypeId) : (Builtin.len_ #[50] ty #[.map none]).run Try.prog w = .ok (.int .i64 0) w := by
  simp [Builtin.len_, run_underlying Try.underlying50, goInt, Result.andThen]

/-- the map of a store, if it has one -/
def MpO (w : World) (m : Option Nat) (L : Vs) : Prop := match m with
  | none => L = []
  | some M => Mp w M L
theorem MpO.look {w : World} {m : Option Nat} {L : Vs} (h : MpO w m L) (p : Bs) (hp : p.length ≤ maxLen) : (Instr.lookup 50 (.map m) (.string (mk p)) false).run Try.prog w = .ok (vV (getV L p)) w := by
  cases m with
  | none => cases h; exact nil_look w p hp
  | some M => exact Mp.look h p hp
theorem MpO.look2 {w : World} {m : Option Nat} {L : Vs} (h : MpO w m L) (p : Bs) (hp : p.length ≤ maxLen) : (Instr.lookup 50 (.map m) (.string (mk p)) true).run Try.prog w = .ok (.tuple #[vV (getV L p), .bool (fnd L p).isSome]) w := by
  cases m with
  | none => cases h; exact nil_look2 w p hp
  | some M => exact Mp.look2 h p hp
theorem MpO.len {w : World} {m : Option Nat} {L : Vs} (h : MpO w m L) (ty : TypeId) : (Builtin.len_ #[50] ty #[.map m]).run Try.prog w = .ok (.int .i64 L.length) w := by
  cases m with
  | none => cases h; exact nil_len w ty
  | some M => exact Mp.len h ty
theorem MpO.kept {w w' : World} {m : Option Nat} {L : Vs} (h : MpO w m L) (hk : ∀ M, m = some M → w'.heap[M]? = w.heap[M]?) : MpO w' m L := by
  cases m with
  | none => exact h
  | some M => exact Mp.kept h (hk M rfl)
theorem MpO.lt {w : World} {m : Option Nat} {L : Vs} (h : MpO w m L) : ∀ M, m = some M → M < w.heap.size := by
  rintro M rfl
  exact Mp.lt h
def Sb (w : World) (A : Nat) (m : Option Nat) : Prop := w.heap[A]? = some (.cells #[.map m] 54 (0, 0))
theorem Sb.lt {w : World} {A : Nat} {m : Option Nat} (h : Sb w A m) : A < w.heap.size := lt_of_block h
theorem Sb.c0 {w : World} {A : Nat} {m : Option Nat} (h : Sb w A m) : w.cell? ⟨A, 0, none⟩ = some (.map m) := by unfold Sb at h; rw [Lib.cell_of_heap h]; rfl
theorem Sb.fz {w : World} {A : Nat} {m : Option Nat} (h : Sb w A m) (j : Nat) : w.frozen? ⟨A, j, none⟩ = false := Lib.frozen_of_heap h j
/-- a store of the variables L -/
structure St (w : World) (A : Nat) (m : Option Nat) (L : Vs) : Prop where
  sb : Sb w A m
  mp : MpO w m L
  srt : Srt L
  nm : ∀ e ∈ L, e.2.name = e.1
  len : ∀ e ∈ L, e.1.length ≤ 1000000 ∧ e.2.value.length ≤ 1000000
  cnt : L.length ≤ 1000
theorem St.keep {w w' : World} {A : Nat} {m : Option Nat} {L : Vs} (h : St w A m L) (hA : w'.heap[A]? = w.heap[A]?) (hM : ∀ M, m = some M → w'.heap[M]? = w.heap[M]?) : St w' A m L :=
  ⟨hA.trans h.sb, h.mp.kept hM, h.srt, h.nm, h.len, h.cnt⟩
theorem St.below {w w' : World} {A : Nat} {m : Option Nat} {L : Vs} (h : St w A m L) (hb : Below w.heap.size w w') : St w' A m L :=
  h.keep (hb.block A h.sb.lt) fun M hM => hb.block M (h.mp.lt M hM)
/-- the blocks of a store -/
def Ow (A : Nat) (m : Option Nat) : Nat → Prop := fun k => k = A ∨ m = some k
theorem St.ne {w : World} {A : Nat} {m : Option Nat} {L : Vs} (h : St w A m L) : ∀ M, m = some M → M ≠ A := by
  rintro M rfl rfl
  obtain ⟨es, c, hb⟩ := Mp.isMap h.mp
  have := h.sb
  unfold Sb at this
  rw [hb] at this
  cases this
end Go.Proofs.Ytillechackcbpaa
