/- The contracts of errors.Is at the errors that package rule makes, and of rule.number. -/
import Derived.Test.YthkjinhnnilalaaGreatDoorMem
import Derived.LaidEql
import Derived.Lib.IfaceEq
import Derived.Stop.Asserts
import Derived.RowKitTokens
namespace Go.Proofs.YthkjinhnnilalaaGreatDoor
open Go.RowKit Go.Extern.Stop Go.Stop Go.Extern

theorem Tryz.isTypeOf (v : Value) (w : World) : (Extern.ReflectliteType.typeOf #[.iface 30 v]).run Tryz.prog w = .ok (.iface 118 (.agg #[.pointer (some ⟨3, 30, none⟩)])) w := by kernel_rfl
theorem Tryz.call134 (w : World) : (callFunc 119 #[.agg #[.pointer (some ⟨3, 30, none⟩)]]).run Tryz.prog w = .ok (.value (.bool true)) w := by kernel_rfl
theorem Tryz.isMethodComparable (v : Value) (w : World) : (Go.method 271 118 v "Comparable").run Tryz.prog w = .ok (119, v) w := by kernel_rfl
theorem Tryz.noIsN (v : Value) (xT : TypeId) (w : World) : (Instr.typeAssert (.iface 30 v) xT 120 true).run Tryz.prog w = .ok (.tuple #[.nilIface, .bool false]) w := run_typeAssert_lacksB Tryz.underlying120 (by kernel_rfl) (by kernel_rfl) v xT w
theorem Tryz.noUnwrapN (v : Value) (xT : TypeId) (w : World) : (Instr.typeAssert (.iface 30 v) xT 123 true).run Tryz.prog w = .ok (.tuple #[.nilIface, .bool false]) w := run_typeAssert_lacksB Tryz.underlying123 (by kernel_rfl) (by kernel_rfl) v xT w
theorem Tryz.noUnwrapsN (v : Value) (xT : TypeId) (w : World) : (Instr.typeAssert (.iface 30 v) xT 124 true).run Tryz.prog w = .ok (.tuple #[.nilIface, .bool false]) w := run_typeAssert_lacksB Tryz.underlying124 (by kernel_rfl) (by kernel_rfl) v xT w
theorem Tryz.noIsF (v : Value) (xT : TypeId) (w : World) : (Instr.typeAssert (.iface 70 v) xT 120 true).run Tryz.prog w = .ok (.tuple #[.nilIface, .bool false]) w := run_typeAssert_lacksB Tryz.underlying120 (by kernel_rfl) (by kernel_rfl) v xT w
theorem Tryz.hasUnwrapF (v : Value) (xT : TypeId) (w : World) : (Instr.typeAssert (.iface 70 v) xT 123 true).run Tryz.prog w = .ok (.tuple #[.iface 70 v, .bool true]) w := run_typeAssert_hasB Tryz.underlying123 (by kernel_rfl) v xT w
theorem Tryz.methodUnwrap (v : Value) (w : World) : (Go.method 271 70 v "Unwrap").run Tryz.prog w = .ok (113, v) w := by kernel_rfl
theorem Tryz.isComp : (Tryz.prog.info? 30).map (·.comparable) = some true := by kernel_rfl
theorem is_nil (n : Int) (w : World) : Calls Tryz.prog 50 #[.nilIface, .iface 30 (.int .i64 n)] w fun e w' => e = .returned (.bool false) ∧ w' = w := by
  have hn := run_eql_iface_nil_left (P := Tryz.prog) w 30 (.int .i64 n) Tryz.underlying53
  go_enter Tryz.func50, Tryz.ntmps50
  go_wp2
  go_ret
  exact ⟨rfl, rfl⟩
set_option maxHeartbeats 1000000 in
theorem is_flt (pb : Nat) (k n : Int) (w : World) (h1 : w.cell? ⟨pb, 1, none⟩ = some (.iface 30 (.int .i64 k))) :
    Calls Tryz.prog 50 #[.iface 70 (.pointer (some ⟨pb, 0, none⟩)), .iface 30 (.int .i64 n)] w fun e w' => e = .returned (.bool (k == n)) ∧ w' = w := by
  have h50 := @run_callFunc_extern Tryz.prog 69 _ Extern.ReflectliteType.typeOf Tryz.func69 (by kernel_rfl) (by kernel_rfl) (by kernel_rfl) (by kernel_rfl)
  have h134 := Tryz.call134
  have tT := Tryz.isTypeOf
  have mR := Tryz.isMethodComparable
  have nW := Tryz.noIsF
  have uW := Tryz.hasUnwrapF
  have mU := Tryz.methodUnwrap
  have nN := Tryz.noIsN
  have uN := Tryz.noUnwrapN
  have vN := Tryz.noUnwrapsN
  have hty := run_eql_iface_types (P := Tryz.prog) 70 30 (.pointer (some ⟨pb, 0, none⟩)) (.int .i64 n) Tryz.underlying53 (by decide) w
  have heq := Lib.run_eql_iface_int (P := Tryz.prog) (t := 53) (tx := 30) (k := .i64) w k n Tryz.underlying53 Tryz.isComp Tryz.underlying30
  cases hkn : (k == n) with
  | true =>
    rw [hkn] at heq
    go_enter Tryz.func50, Tryz.ntmps50
    go_wp2
    refine wp_loop_rounds 2 ?_
    rw [rounds_succ]
    go_wp2
    rw [rounds_succ]
    go_wp2
    go_ret
    exact ⟨rfl, rfl⟩
  | false =>
    rw [hkn] at heq
    go_enter Tryz.func50, Tryz.ntmps50
    go_wp2
    refine wp_loop_rounds 2 ?_
    rw [rounds_succ]
    go_wp2
    rw [rounds_succ]
    go_wp2
    go_ret
    exact ⟨rfl, rfl⟩
/-- an error, by its number: 0 is none -/
def IsE (w : World) (v : Value) (k : Nat) : Prop := (k = 0 ∧ v = .nilIface) ∨ k ≠ 0 ∧ ∃ pb p, v = .iface 70 (.pointer (some ⟨pb, 0, none⟩)) ∧ w.heap[pb]? = some (.cells #[p, .iface 30 (.int .i64 (k : Nat))] 73 (0, 0))
theorem is_any (v : Value) (k : Nat) (n : Nat) (hn : n ≠ 0) (w : World) (h : IsE w v k) : Calls Tryz.prog 50 #[v, .iface 30 (.int .i64 (n : Nat))] w fun e w' => e = .returned (.bool (decide (k = n))) ∧ w' = w := by
  rcases h with ⟨rfl, rfl⟩ | ⟨_, pb, p, rfl, hb⟩
  · have : decide (0 = n) = false := decide_eq_false (by omega)
    rw [this]
    exact is_nil n w
  · have := is_flt pb (k : Nat) (n : Nat) w (by rw [Lib.cell_of_heap hb]; rfl)
    have e : (((k : Nat) : Int) == ((n : Nat) : Int)) = decide (k = n) := by
      by_cases h : k = n
      · subst h; simp
      · rw [decide_eq_false h]; exact beq_eq_false_iff_ne.2 (by omega)
    rwa [e] at this
theorem idx0 (w : World) : (Instr.index 77 (.agg #[.int .i64 50, .int .i64 56, .int .i64 55]) (.int .i64 0)).run Tryz.prog w = .ok (.int .i64 50) w := by kernel_rfl
theorem idx1 (w : World) : (Instr.index 77 (.agg #[.int .i64 50, .int .i64 56, .int .i64 55]) (.int .i64 1)).run Tryz.prog w = .ok (.int .i64 56) w := by kernel_rfl
theorem idx2 (w : World) : (Instr.index 77 (.agg #[.int .i64 50, .int .i64 56, .int .i64 55]) (.int .i64 2)).run Tryz.prog w = .ok (.int .i64 55) w := by kernel_rfl
set_option maxRecDepth 100000 in
set_option maxHeartbeats 1000000 in
/-- number, of an error that says that targets are mixed -/
theorem number_mixed (v : Value) (w : World) (h : IsE w v 55) : Calls Tryz.prog 28 #[v] w fun e w' => e = .returned (.int .i64 55) ∧ w' = w := by
  have q1 := is_any v 55 50 (by decide) w h
  have q2 := is_any v 55 56 (by decide) w h
  have q3 := is_any v 55 55 (by decide) w h
  rw [show decide (55 = 50) = false from rfl] at q1
  rw [show decide (55 = 56) = false from rfl] at q2
  rw [show decide (55 = 55) = true from rfl] at q3
  have i0 := idx0
  have i1 := idx1
  have i2 := idx2
  clear h
  go_enter Tryz.func28, Tryz.ntmps28
  go_wp2
  refine wp_loop_rounds 3 ?_
  rw [rounds_succ]
  go_wp2_with fail
  refine q1.mono ?_
  rintro r w1 ⟨rfl, rfl⟩
  go_wp2
  rw [rounds_succ]
  go_wp2_with fail
  refine q2.mono ?_
  rintro r w1 ⟨rfl, rfl⟩
  go_wp2
  rw [rounds_succ]
  go_wp2_with fail
  refine q3.mono ?_
  rintro r w1 ⟨rfl, rfl⟩
  go_wp2
  go_ret
  exact ⟨rfl, rfl⟩
end Go.Proofs.YthkjinhnnilalaaGreatDoor
