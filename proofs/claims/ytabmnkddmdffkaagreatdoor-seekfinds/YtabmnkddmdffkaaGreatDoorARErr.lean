import Derived.Test.YtabmnkddmdffkaaGreatDoorARArG
import Derived.LaidEql
import Derived.Lib.IfaceEq
import Derived.Stop.Asserts
import Derived.RowKitTokens
namespace Go.Proofs.YtabmnkddmdffkaaGreatDoor.Arc
open Go.RowKit Go.Extern.Stop Go.Stop Go.Extern
theorem Tryz.isTypeOf (v : Value) (w : World) : (Extern.ReflectliteType.typeOf #[.iface 31 v]).run Tryz.prog w = .ok (.iface 146 (.agg #[.pointer (some ⟨12, 31, none⟩)])) w := by kernel_rfl
theorem Tryz.call134 (w : World) : (callFunc 260 #[.agg #[.pointer (some ⟨12, 31, none⟩)]]).run Tryz.prog w = .ok (.value (.bool true)) w := by kernel_rfl
theorem Tryz.isMethodComparable (v : Value) (w : World) : (Go.method 428 146 v "Comparable").run Tryz.prog w = .ok (260, v) w := by kernel_rfl
theorem Tryz.noIsN (v : Value) (xT : TypeId) (w : World) : (Instr.typeAssert (.iface 31 v) xT 148 true).run Tryz.prog w = .ok (.tuple #[.nilIface, .bool false]) w := run_typeAssert_lacksB Tryz.underlying148 (by kernel_rfl) (by kernel_rfl) v xT w
theorem Tryz.noUnwrapN (v : Value) (xT : TypeId) (w : World) : (Instr.typeAssert (.iface 31 v) xT 151 true).run Tryz.prog w = .ok (.tuple #[.nilIface, .bool false]) w := run_typeAssert_lacksB Tryz.underlying151 (by kernel_rfl) (by kernel_rfl) v xT w
theorem Tryz.noUnwrapsN (v : Value) (xT : TypeId) (w : World) : (Instr.typeAssert (.iface 31 v) xT 153 true).run Tryz.prog w = .ok (.tuple #[.nilIface, .bool false]) w := run_typeAssert_lacksB Tryz.underlying153 (by kernel_rfl) (by kernel_rfl) v xT w
theorem Tryz.noIsF (v : Value) (xT : TypeId) (w : World) : (Instr.typeAssert (.iface 215 v) xT 148 true).run Tryz.prog w = .ok (.tuple #[.nilIface, .bool false]) w := run_typeAssert_lacksB Tryz.underlying148 (by kernel_rfl) (by kernel_rfl) v xT w
theorem Tryz.hasUnwrapF (v : Value) (xT : TypeId) (w : World) : (Instr.typeAssert (.iface 215 v) xT 151 true).run Tryz.prog w = .ok (.tuple #[.iface 215 v, .bool true]) w := run_typeAssert_hasB Tryz.underlying151 (by kernel_rfl) v xT w
theorem Tryz.methodUnwrap (v : Value) (w : World) : (Go.method 428 215 v "Unwrap").run Tryz.prog w = .ok (272, v) w := by kernel_rfl
theorem Tryz.isComp : (Tryz.prog.info? 31).map (·.comparable) = some true := by kernel_rfl
theorem is_nil (n : Int) (w : World) : Calls Tryz.prog 29 #[.nilIface, .iface 31 (.int .i64 n)] w fun e w' => e = .returned (.bool false) ∧ w' = w := by
 have hn := run_eql_iface_nil_left (P := Tryz.prog) w 31 (.int .i64 n) Tryz.underlying62
 go_enter Tryz.func29, Tryz.ntmps29
 go_wp2
 go_ret
 exact ⟨rfl, rfl⟩
set_option maxHeartbeats 1000000 in
theorem is_flt (pb : Nat) (k n : Int) (w : World) (h1 : w.cell? ⟨pb, 1, none⟩ = some (.iface 31 (.int .i64 k))) :
  Calls Tryz.prog 29 #[.iface 215 (.pointer (some ⟨pb, 0, none⟩)), .iface 31 (.int .i64 n)] w fun e w' => e = .returned (.bool (k == n)) ∧ w' = w := by
 have h50 := @run_callFunc_extern Tryz.prog 58 _ Extern.ReflectliteType.typeOf Tryz.func58 (by kernel_rfl) (by kernel_rfl) (by kernel_rfl) (by kernel_rfl)
 have h134 := Tryz.call134
 have tT := Tryz.isTypeOf
 have mR := Tryz.isMethodComparable
 have nW := Tryz.noIsF
 have uW := Tryz.hasUnwrapF
 have mU := Tryz.methodUnwrap
 have nN := Tryz.noIsN
 have uN := Tryz.noUnwrapN
 have vN := Tryz.noUnwrapsN
 have hty := run_eql_iface_types (P := Tryz.prog) 215 31 (.pointer (some ⟨pb, 0, none⟩)) (.int .i64 n) Tryz.underlying62 (by decide) w
 have heq := Lib.run_eql_iface_int (P := Tryz.prog) (t := 62) (tx := 31) (k := .i64) w k n Tryz.underlying62 Tryz.isComp Tryz.underlying31
 cases hkn : (k == n) with
 | true =>
  rw [hkn] at heq
  go_enter Tryz.func29, Tryz.ntmps29
  go_wp2
  refine wp_loop_rounds 2 ?_
  rw [rounds_succ]
  go_wp2
  rw [rounds_succ]
  go_wp2
  go_ret
  exact ⟨rfl, rfl⟩
 | false =>
  rw [hkn] at heq
  go_enter Tryz.func29, Tryz.ntmps29
  go_wp2
  refine wp_loop_rounds 2 ?_
  rw [rounds_succ]
  go_wp2
  rw [rounds_succ]
  go_wp2
  go_ret
  exact ⟨rfl, rfl⟩
def IsE (w : World) (v : Value) (k : Nat) : Prop := (k = 0 ∧ v = .nilIface) ∨ k ≠ 0 ∧ ∃ pb p, v = .iface 215 (.pointer (some ⟨pb, 0, none⟩)) ∧ w.heap[pb]? = some (.cells #[p, .iface 31 (.int .i64 (k : Nat))] 217 (0, 0))
theorem is_any (v : Value) (k : Nat) (n : Nat) (hn : n ≠ 0) (w : World) (h : IsE w v k) : Calls Tryz.prog 29 #[v, .iface 31 (.int .i64 (n : Nat))] w fun e w' => e = .returned (.bool (decide (k = n))) ∧ w' = w := by
 rcases h with ⟨rfl, rfl⟩ | ⟨_, pb, p, rfl, hb⟩
 ·have : decide (0 = n) = false := decide_eq_false (by omega)
  rw [this]
  exact is_nil n w
 ·have := is_flt pb (k : Nat) (n : Nat) w (by rw [Lib.cell_of_heap hb]; rfl)
  have e : (((k : Nat) : Int) == ((n : Nat) : Int)) = decide (k = n) := by
   by_cases h : k = n
   ·subst h; simp
   ·rw [decide_eq_false h]; exact beq_eq_false_iff_ne.2 (by omega)
  rwa [e] at this
set_option maxHeartbeats 1000000 in
theorem number_any (v : Value) (k : Nat) (w : World) (h : IsE w v k) (hk : k = 0 ∨ k = 1 ∨ k = 2 ∨ k = 20) : Calls Tryz.prog 116 #[v] w fun e w' => e = .returned (.int .i64 (k : Nat)) ∧ w' = w := by
 have q2 := is_any v k 2 (by decide) w h
 have q1 := is_any v k 1 (by decide) w h
 have q20 := is_any v k 20 (by decide) w h
 rcases hk with rfl | rfl | rfl | rfl
 ·rw [show decide (0 = 2) = false from rfl] at q2
  rw [show decide (0 = 1) = false from rfl] at q1
  rw [show decide (0 = 20) = false from rfl] at q20
  clear h
  go_enter Tryz.func116, Tryz.ntmps116
  go_wp2_with fail
  refine q2.mono ?_
  rintro r w1 ⟨rfl, rfl⟩
  go_wp2_with fail
  refine q1.mono ?_
  rintro r w1 ⟨rfl, rfl⟩
  go_wp2_with fail
  refine q20.mono ?_
  rintro r w1 ⟨rfl, rfl⟩
  go_wp2
  go_ret
  exact ⟨rfl, rfl⟩
 ·rw [show decide (1 = 2) = false from rfl] at q2
  rw [show decide (1 = 1) = true from rfl] at q1
  clear h q20
  go_enter Tryz.func116, Tryz.ntmps116
  go_wp2_with fail
  refine q2.mono ?_
  rintro r w1 ⟨rfl, rfl⟩
  go_wp2_with fail
  refine q1.mono ?_
  rintro r w1 ⟨rfl, rfl⟩
  go_wp2
  go_ret
  exact ⟨rfl, rfl⟩
 ·rw [show decide (2 = 2) = true from rfl] at q2
  clear h q20 q1
  go_enter Tryz.func116, Tryz.ntmps116
  go_wp2_with fail
  refine q2.mono ?_
  rintro r w1 ⟨rfl, rfl⟩
  go_wp2
  go_ret
  exact ⟨rfl, rfl⟩
 ·rw [show decide (20 = 2) = false from rfl] at q2
  rw [show decide (20 = 1) = false from rfl] at q1
  rw [show decide (20 = 20) = true from rfl] at q20
  clear h
  go_enter Tryz.func116, Tryz.ntmps116
  go_wp2_with fail
  refine q2.mono ?_
  rintro r w1 ⟨rfl, rfl⟩
  go_wp2_with fail
  refine q1.mono ?_
  rintro r w1 ⟨rfl, rfl⟩
  go_wp2_with fail
  refine q20.mono ?_
  rintro r w1 ⟨rfl, rfl⟩
  go_wp2
  go_ret
  exact ⟨rfl, rfl⟩
end Go.Proofs.YtabmnkddmdffkaaGreatDoor.Arc
