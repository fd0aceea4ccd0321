/- The contract of errors.Is at the errors that package seek makes: the one error that something is not there, and faults around it. -/
import Derived.Test.YtabmnkddmdffkaaGreatDoorAErr
import Derived.Test.YtabmnkddmdffkaaGreatDoorALook
import Derived.Test.YtabmnkddmdffkaaGreatDoorARep
namespace Go.Proofs.YtabmnkddmdffkaaGreatDoor.Sk
open Go.RowKit Go.Extern.Stop Go.Stop Go.Extern

theorem nIsF (v : Value) (xT : TypeId) (w : World) : (Instr.typeAssert (.iface 113 v) xT 148 true).run Tryz.prog w = .ok (.tuple #[.nilIface, .bool false]) w := run_typeAssert_lacksB Tryz.underlying148 (by kernel_rfl) (by kernel_rfl) v xT w
theorem hUnF (v : Value) (xT : TypeId) (w : World) : (Instr.typeAssert (.iface 113 v) xT 151 true).run Tryz.prog w = .ok (.tuple #[.iface 113 v, .bool true]) w := run_typeAssert_hasB Tryz.underlying151 (by kernel_rfl) v xT w
theorem nIsE (v : Value) (xT : TypeId) (w : World) : (Instr.typeAssert (.iface 289 v) xT 148 true).run Tryz.prog w = .ok (.tuple #[.nilIface, .bool false]) w := run_typeAssert_lacksB Tryz.underlying148 (by kernel_rfl) (by kernel_rfl) v xT w

/-- a chain of faults around the one error, in blocks from B on -/
inductive AbN (w : World) (E : Addr) : Nat → Value → Prop where
  | one : AbN w E 0 (.iface 289 (.pointer (some E)))
  | wrap (d b : Nat) (p : ByteArray) (v : Value) : w.heap[b]? = some (.cells #[.string p, v] 115 (0, 0)) → AbN w E d v → AbN w E (d + 1) (.iface 113 (.pointer (some ⟨b, 0, none⟩)))
theorem abn_below {w w' : World} {E : Addr} {d : Nat} {v : Value} (h : AbN w E d v) (hb : Below w.heap.size w w') : AbN w' E d v := by
  induction h with
  | one => exact .one
  | wrap d b p v hx _ ih => exact .wrap d b p v ((hb.block b (lt_of_block hx)).trans hx) ih
/-- an error that says that nothing is there -/
def Ab (w : World) (E : Addr) (v : Value) : Prop := AbN w E 0 v ∨ AbN w E 1 v ∨ AbN w E 2 v
theorem Ab.below {w w' : World} {E : Addr} {v : Value} (h : Ab w E v) (hb : Below w.heap.size w w') : Ab w' E v := by
  rcases h with h | h | h
  · exact .inl (abn_below h hb)
  · exact .inr (.inl (abn_below h hb))
  · exact .inr (.inr (abn_below h hb))

set_option maxHeartbeats 1000000 in
theorem is_one (b : Addr) (w : World) :
    Calls Tryz.prog 29 #[.iface 289 (.pointer (some b)), .iface 289 (.pointer (some b))] w fun e w' => e = .returned (.bool true) ∧ w' = w := by
  obtain ⟨i, hi, hcmp⟩ := Option.map_eq_some_iff.1 Tryz.isComp
  obtain ⟨j, hj, hjs⟩ := Option.map_eq_some_iff.1 Tryz.isSize
  have h90 := @run_callFunc_extern Tryz.prog 58 _ Extern.ReflectliteType.typeOf Tryz.func58 (by kernel_rfl) (by kernel_rfl) (by kernel_rfl) (by kernel_rfl)
  have h177 := Tryz.call177
  have tT := Tryz.isTypeOf
  have mR := Tryz.isMethodComparable
  have heq := run_eql_iface_ptr_same (P := Tryz.prog) w b Tryz.underlying62 Tryz.underlying289 hi hcmp hj
  go_enter Tryz.func29, Tryz.ntmps29
  go_wp2
  refine wp_loop_rounds 1 ?_
  rw [rounds_succ]
  go_wp2
  go_ret
  exact ⟨rfl, rfl⟩
theorem mUnF (v : Value) (w : World) : (Go.method 428 113 v "Unwrap").run Tryz.prog w = .ok (254, v) w := by kernel_rfl
set_option maxHeartbeats 1000000 in
theorem is_w1 (pb : Nat) (b : Addr) (w : World) (h1 : w.cell? ⟨pb, 1, none⟩ = some (.iface 289 (.pointer (some b)))) :
    Calls Tryz.prog 29 #[.iface 113 (.pointer (some ⟨pb, 0, none⟩)), .iface 289 (.pointer (some b))] w fun e w' => e = .returned (.bool true) ∧ w' = w := by
  obtain ⟨i, hi, hcmp⟩ := Option.map_eq_some_iff.1 Tryz.isComp
  obtain ⟨j, hj, hjs⟩ := Option.map_eq_some_iff.1 Tryz.isSize
  have h90 := @run_callFunc_extern Tryz.prog 58 _ Extern.ReflectliteType.typeOf Tryz.func58 (by kernel_rfl) (by kernel_rfl) (by kernel_rfl) (by kernel_rfl)
  have h177 := Tryz.call177
  have tT := Tryz.isTypeOf
  have mR := Tryz.isMethodComparable
  have nW := nIsF
  have uW := hUnF
  have mU := mUnF
  have heq := run_eql_iface_ptr_same (P := Tryz.prog) w b Tryz.underlying62 Tryz.underlying289 hi hcmp hj
  have hty := run_eql_iface_types (P := Tryz.prog) 113 289 (.pointer (some ⟨pb, 0, none⟩)) (.pointer (some b)) Tryz.underlying62 (by decide) w
  go_enter Tryz.func29, Tryz.ntmps29
  go_wp2
  refine wp_loop_rounds 2 ?_
  rw [rounds_succ]
  go_wp2
  rw [rounds_succ]
  go_wp2
  go_ret
  exact ⟨rfl, rfl⟩
set_option maxHeartbeats 1000000 in
theorem is_w2 (pb pc : Nat) (b : Addr) (w : World) (h1 : w.cell? ⟨pb, 1, none⟩ = some (.iface 113 (.pointer (some ⟨pc, 0, none⟩)))) (h2 : w.cell? ⟨pc, 1, none⟩ = some (.iface 289 (.pointer (some b)))) :
    Calls Tryz.prog 29 #[.iface 113 (.pointer (some ⟨pb, 0, none⟩)), .iface 289 (.pointer (some b))] w fun e w' => e = .returned (.bool true) ∧ w' = w := by
  obtain ⟨i, hi, hcmp⟩ := Option.map_eq_some_iff.1 Tryz.isComp
  obtain ⟨j, hj, hjs⟩ := Option.map_eq_some_iff.1 Tryz.isSize
  have h90 := @run_callFunc_extern Tryz.prog 58 _ Extern.ReflectliteType.typeOf Tryz.func58 (by kernel_rfl) (by kernel_rfl) (by kernel_rfl) (by kernel_rfl)
  have h177 := Tryz.call177
  have tT := Tryz.isTypeOf
  have mR := Tryz.isMethodComparable
  have nW := nIsF
  have uW := hUnF
  have mU := mUnF
  have heq := run_eql_iface_ptr_same (P := Tryz.prog) w b Tryz.underlying62 Tryz.underlying289 hi hcmp hj
  have hty := run_eql_iface_types (P := Tryz.prog) 113 289 (.pointer (some ⟨pb, 0, none⟩)) (.pointer (some b)) Tryz.underlying62 (by decide) w
  have hty2 := run_eql_iface_types (P := Tryz.prog) 113 289 (.pointer (some ⟨pc, 0, none⟩)) (.pointer (some b)) Tryz.underlying62 (by decide) w
  go_enter Tryz.func29, Tryz.ntmps29
  go_wp2
  refine wp_loop_rounds 3 ?_
  rw [rounds_succ]
  go_wp2
  rw [rounds_succ]
  go_wp2
  rw [rounds_succ]
  go_wp2
  go_ret
  exact ⟨rfl, rfl⟩
theorem c1_of {w : World} {b : Nat} {x v : Value} (h : w.heap[b]? = some (.cells #[x, v] 115 (0, 0))) : w.cell? ⟨b, 1, none⟩ = some v := by rw [Lib.cell_of_heap h]; rfl
/-- errors.Is of an error that says that nothing is there -/
theorem is_ab (E : Addr) (v : Value) (w : World) (h : Ab w E v) : Calls Tryz.prog 29 #[v, .iface 289 (.pointer (some E))] w fun e w' => e = .returned (.bool true) ∧ w' = w := by
  rcases h with h | h | h
  · cases h with
    | one => exact is_one E w
  · cases h with
    | wrap d b p v hx hv =>
      cases hv with
      | one => exact is_w1 b E w (c1_of hx)
  · cases h with
    | wrap d b p v hx hv =>
      cases hv with
      | wrap d b2 p2 v2 hx2 hv2 =>
        cases hv2 with
        | one => exact is_w2 b b2 E w (c1_of hx) (c1_of hx2)
/-- the variables of this package and of the one below -/
structure Gl (B : Nat) (w : World) (Ea E : Addr) : Prop where
  ca : w.cell? ⟨0, 0, none⟩ = some (.iface 289 (.pointer (some Ea)))
  glo : Glo B w E
  mx : Sk.Mx w
  lo : 4 < B
theorem Gl.keep {B : Nat} {Ea E : Addr} {w w' : World} (h : Gl B w Ea E) (hb : Below B w w') : Gl B w' Ea E :=
  ⟨(hb.cell (p := ⟨0, 0, none⟩) (by have := h.lo; simp only; omega)).trans h.ca, h.glo.keep hb, h.mx.keep hb h.lo, h.lo⟩
end Go.Proofs.YtabmnkddmdffkaaGreatDoor.Sk
