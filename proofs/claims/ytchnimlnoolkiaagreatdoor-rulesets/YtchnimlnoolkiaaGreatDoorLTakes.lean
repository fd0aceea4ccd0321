/- The law RuleTakes answers true. -/
import Derived.Test.YtchnimlnoolkiaaGreatDoorAlive
namespace Go.Proofs.YtchnimlnoolkiaaGreatDoor
open Go.RowKit Go.Shelf

theorem hd_fields : ((Tryz.prog.fieldsOf 24).toList.map fun f => (decide (f.name = "_"), f.type, f.offset)) = [(false, 3, 0), (false, 9, 1), (false, 9, 2), (false, 9, 3), (false, 9, 4), (false, 3, 5), (false, 4, 6), (false, 4, 7)] := by kernel_rfl
set_option maxRecDepth 100000 in
theorem hd_eq (k : Int) (l r n c : ByteArray) (s : Int) (d h : Bool) (W : World) : (binOp .eql 24 (.agg #[.int .i64 k, .string l, .string r, .string n, .string c, .int .i64 s, .bool d, .bool h]) (.agg #[.int .i64 k, .string l, .string r, .string n, .string c, .int .i64 s, .bool d, .bool h])).run Tryz.prog W = .ok (.bool true) W := by
  have p0 : (part 3 #[.int .i64 k, .string l, .string r, .string n, .string c, .int .i64 s, .bool d, .bool h] 0).run Tryz.prog W = .ok (.int .i64 k) W := by kernel_rfl
  have p1 : (part 9 #[.int .i64 k, .string l, .string r, .string n, .string c, .int .i64 s, .bool d, .bool h] 1).run Tryz.prog W = .ok (.string l) W := by kernel_rfl
  have p2 : (part 9 #[.int .i64 k, .string l, .string r, .string n, .string c, .int .i64 s, .bool d, .bool h] 2).run Tryz.prog W = .ok (.string r) W := by kernel_rfl
  have p3 : (part 9 #[.int .i64 k, .string l, .string r, .string n, .string c, .int .i64 s, .bool d, .bool h] 3).run Tryz.prog W = .ok (.string n) W := by kernel_rfl
  have p4 : (part 9 #[.int .i64 k, .string l, .string r, .string n, .string c, .int .i64 s, .bool d, .bool h] 4).run Tryz.prog W = .ok (.string c) W := by kernel_rfl
  have p5 : (part 3 #[.int .i64 k, .string l, .string r, .string n, .string c, .int .i64 s, .bool d, .bool h] 5).run Tryz.prog W = .ok (.int .i64 s) W := by kernel_rfl
  have p6 : (part 4 #[.int .i64 k, .string l, .string r, .string n, .string c, .int .i64 s, .bool d, .bool h] 6).run Tryz.prog W = .ok (.bool d) W := by kernel_rfl
  have p7 : (part 4 #[.int .i64 k, .string l, .string r, .string n, .string c, .int .i64 s, .bool d, .bool h] 7).run Tryz.prog W = .ok (.bool h) W := by kernel_rfl
  have e3 : ∀ n, (Op.equalIn 9999 3 (.int .i64 n) (.int .i64 n)).run Tryz.prog W = .ok true W := fun n => by
    rw [run_equalIn_int W 9998 3 .i64 .i64 n n Tryz.underlying3]
    simp
  have e9 : ∀ x, (Op.equalIn 9999 9 (.string x) (.string x)).run Tryz.prog W = .ok true W := fun x => by
    rw [run_equalIn_string W 9998 9 x x Tryz.underlying9]
    simp
  have e4 : ∀ x, (Op.equalIn 9999 4 (.bool x) (.bool x)).run Tryz.prog W = .ok true W := fun x => by
    rw [run_equalIn_bool W 9998 4 x x Tryz.underlying4]
    simp
  rw [run_eql_struct, run_equalIn_struct W 9999 24 _ _ (by kernel_rfl) (by kernel_rfl)]
  have hf := hd_fields
  generalize (Tryz.prog.fieldsOf 24).toList = l at hf
  have hl : l.length = 8 := by have := congrArg List.length hf; simpa using this
  obtain ⟨f0, f1, f2, f3, f4, f5, f6, f7, rfl⟩ : ∃ f0 f1 f2 f3 f4 f5 f6 f7, l = [f0, f1, f2, f3, f4, f5, f6, f7] := by
    match l, hl with
    | [a, b, c, d, e, f, g, h], _ => exact ⟨a, b, c, d, e, f, g, h, rfl⟩
  simp only [List.map_cons, List.map_nil, List.cons.injEq, Prod.mk.injEq, decide_eq_false_iff_not, and_true] at hf
  obtain ⟨⟨n0, t0, o0⟩, ⟨n1, t1, o1⟩, ⟨n2, t2, o2⟩, ⟨n3, t3, o3⟩, ⟨n4, t4, o4⟩, ⟨n5, t5, o5⟩, ⟨n6, t6, o6⟩, ⟨n7, t7, o7⟩⟩ := hf
  simp [Op.eqFields, n0, t0, o0, n1, t1, o1, n2, t2, o2, n3, t3, o3, n4, t4, o4, n5, t5, o5, n6, t6, o6, n7, t7, o7, p0, p1, p2, p3, p4, p5, p6, p7, e3, e9, e4]
set_option maxHeartbeats 2000000 in
theorem ltakes_any (s : ByteArray) (w : World) : Calls Tryz.prog 3 #[.string s] w fun e w' => e = .returned (.bool true) ∧ Below w.heap.size w w' := by
  have k1 := alive_any w
  by_cases h1 : s.size ≤ 10000
  · have d1 : decide ((10000 : Int) < (s.size : Int)) = false := decide_eq_false (by omega)
    have k2 := fun w => take_any s (by omega) w
    have k3 := fun w => rtake_any s (by omega) w
    generalize takeB s = H at k2 k3
    obtain ⟨Hk, Hl, Hr, Hn, Hc, Hs, Hdd, Hh⟩ := H
    simp only [hv] at k2 k3
    have hE := hd_eq Hk Hl Hr Hn Hc Hs Hdd Hh
    go_enter Tryz.func3, Tryz.ntmps3
    go_wp2_with (first | (go_at_call 7; refine k1.mono ?_; rintro e w1 ⟨rfl, hb1⟩) | (go_at_call 8; refine (k2 _).mono ?_; rintro e w2 ⟨rfl, hb2⟩) | (go_at_call 9; refine (k3 _).mono ?_; rintro e w3 ⟨rfl, hb3⟩))
    go_ret
    have hB2 := hb1.trans (hb2.mono hb1.size)
    exact ⟨rfl, hB2.trans (hb3.mono hB2.size)⟩
  · have d1 : decide ((10000 : Int) < (s.size : Int)) = true := decide_eq_true (by omega)
    go_enter Tryz.func3, Tryz.ntmps3
    go_wp2_with (go_at_call 7; refine k1.mono ?_; rintro e w1 ⟨rfl, hb1⟩)
    go_ret
    exact ⟨rfl, hb1⟩
end Go.Proofs.YtchnimlnoolkiaaGreatDoor
