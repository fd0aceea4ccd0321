/- The contract of rule.assignment. -/
import Derived.Test.YthkjinhnnilalaaGreatDoorHd
import Derived.Deep.Cut
namespace Go.Proofs.YthkjinhnnilalaaGreatDoor
open Go.RowKit Go.Shelf

/-- a head -/
structure Hd where
  k : Int
  l : ByteArray
  r : ByteArray
  n : ByteArray
  c : ByteArray
  s : Int
  d : Bool
  h : Bool
abbrev hv (x : Hd) : Value := .agg #[.int .i64 x.k, .string x.l, .string x.r, .string x.n, .string x.c, .int .i64 x.s, .bool x.d, .bool x.h]
abbrev nil : ByteArray := ⟨#[]⟩
theorem Bx8.other {w : World} {b A : Nat} {k s : Int} {l r n c : ByteArray} {d h : Bool} (x : Bx8 w b k l r n c s d h) (hne : b ≠ A) (j : Nat) (v : Value) : Bx8 (w.setCell ⟨A, j, none⟩ v) b k l r n c s d h := (set_other _ _ _ _ hne).trans x
/-- an assignment's head -/
def asgB (l r : ByteArray) (b : Bool) : Hd := if b then ⟨1, Tx.trimmed l, pb r, nil, nil, 2, false, false⟩ else ⟨1, (modB (Tx.trimmed l)).1, pb r, nil, nil, (modB (Tx.trimmed l)).2, false, false⟩
set_option maxRecDepth 100000 in
set_option maxHeartbeats 4000000 in
theorem asg_yes (l r : ByteArray) (hl : l.size ≤ 1000000) (hr : r.size ≤ 1000000) (w : World) : Calls Tryz.prog 33 #[.string l, .string r, .bool true] w fun e w' => e = .returned (hv (asgB l r true)) ∧ Below w.heap.size w w' := by
  have hx := bx8_new w
  have hB : Below w.heap.size w (w.alloc (.cells #[.int .i64 0, .string ⟨#[]⟩, .string ⟨#[]⟩, .string ⟨#[]⟩, .string ⟨#[]⟩, .int .i64 0, .bool false, .bool false] 36)) := (Below.refl _ w).alloc (Nat.le_refl _) _
  generalize hW : w.alloc (.cells #[.int .i64 0, .string ⟨#[]⟩, .string ⟨#[]⟩, .string ⟨#[]⟩, .string ⟨#[]⟩, .int .i64 0, .bool false, .bool false] 36) = W at hx hB
  have HW := hide' hW
  clear hW
  have kT := fun w => Tx.trim_any l w hl
  have kP := fun w => past_any r hr w
  have hA : asgB l r true = ⟨1, Tx.trimmed l, pb r, nil, nil, 2, false, false⟩ := rfl
  rw [hA]
  clear hA
  generalize Tx.trimmed l = T at kT
  generalize pb r = R at kP
  go_enter Tryz.func33, Tryz.ntmps33
  go_upto_region 1 with fail
  rw [HW.out]
  go_wp2_with (first | (go_at_call 52; refine (kT _).mono ?_; rintro e w1 ⟨rfl, hb1⟩) | (go_at_call 53; refine (kP _).mono ?_; rintro e w2 ⟨rfl, hb2⟩; have hx2 := (hx.below hb1).below hb2; have cc0 := fun o => (hx2.alloc o).c0; have cf0 := fun o => (hx2.alloc o).fz 0; have cc1 := fun o => (hx2.alloc o).c1; have cf1 := fun o => (hx2.alloc o).fz 1; have cc2 := fun o => (hx2.alloc o).c2; have cf2 := fun o => (hx2.alloc o).fz 2; have cc3 := fun o => (hx2.alloc o).c3; have cf3 := fun o => (hx2.alloc o).fz 3; have cc4 := fun o => (hx2.alloc o).c4; have cf4 := fun o => (hx2.alloc o).fz 4; have cc5 := fun o => (hx2.alloc o).c5; have cf5 := fun o => (hx2.alloc o).fz 5; have cc6 := fun o => (hx2.alloc o).c6; have cf6 := fun o => (hx2.alloc o).fz 6; have cc7 := fun o => (hx2.alloc o).c7; have cf7 := fun o => (hx2.alloc o).fz 7; have HX := hide' hx2; clear hx2))
  have hx3 := ((HX.out.alloc (.cells #[.int .i64 1, .string T, .string R, .string ⟨#[]⟩, .string ⟨#[]⟩, .int .i64 2, .bool false, .bool false] 36)).set (k' := 1) (l' := T) (r' := R) (n' := ⟨#[]⟩) (c' := ⟨#[]⟩) (s' := 2) (d' := false) (h' := false))
  have e0 := hx3.c0
  have e1 := hx3.c1
  have e2 := hx3.c2
  have e3 := hx3.c3
  have e4 := hx3.c4
  have e5 := hx3.c5
  have e6 := hx3.c6
  have e7 := hx3.c7
  refine bodyPost_ret (by simp [results, Tryz.results33, go_sem, e0, e1, e2, e3, e4, e5, e6, e7]; rfl) rfl ?_
  have hB1 := hB.trans (hb1.mono hB.size)
  have hB2 := hB1.trans (hb2.mono hB1.size)
  exact ⟨rfl, put8_below (hB2.alloc hB2.size _) (Nat.le_refl _) _ _ _ _ _ _ _ _⟩
set_option maxRecDepth 100000 in
set_option maxHeartbeats 4000000 in
theorem asg_no (l r : ByteArray) (hl : l.size ≤ 1000000) (hr : r.size ≤ 1000000) (w : World) : Calls Tryz.prog 33 #[.string l, .string r, .bool false] w fun e w' => e = .returned (hv (asgB l r false)) ∧ Below w.heap.size w w' := by
  have hx := bx8_new w
  have hB : Below w.heap.size w (w.alloc (.cells #[.int .i64 0, .string ⟨#[]⟩, .string ⟨#[]⟩, .string ⟨#[]⟩, .string ⟨#[]⟩, .int .i64 0, .bool false, .bool false] 36)) := (Below.refl _ w).alloc (Nat.le_refl _) _
  generalize hW : w.alloc (.cells #[.int .i64 0, .string ⟨#[]⟩, .string ⟨#[]⟩, .string ⟨#[]⟩, .string ⟨#[]⟩, .int .i64 0, .bool false, .bool false] 36) = W at hx hB
  have HW := hide' hW
  clear hW
  have kT := fun w => Tx.trim_any l w hl
  have kP := fun w => past_any r hr w
  have ht := trimmed_size l
  have kM := fun w => mod_any (Tx.trimmed l) (by omega) w
  have hA : asgB l r false = ⟨1, (modB (Tx.trimmed l)).1, pb r, nil, nil, (modB (Tx.trimmed l)).2, false, false⟩ := rfl
  rw [hA]
  clear hA ht
  generalize (modB (Tx.trimmed l)).1 = M at kM
  generalize ((modB (Tx.trimmed l)).2 : Int) = m at kM
  generalize Tx.trimmed l = T at kT kM
  generalize pb r = R at kP
  go_enter Tryz.func33, Tryz.ntmps33
  go_upto_region 1 with fail
  rw [HW.out]
  go_upto_region 3 with (first | (go_at_call 52; refine (kT _).mono ?_; rintro e w1 ⟨rfl, hb1⟩) | (go_at_call 53; refine (kP _).mono ?_; rintro e w2 ⟨rfl, hb2⟩))
  have hx2 := (hx.below hb1).below hb2
  have hy2 := bx8_at w2 1 T R ⟨#[]⟩ ⟨#[]⟩ 2 false false
  have hx3 := hx2.alloc (.cells #[.int .i64 1, .string T, .string R, .string ⟨#[]⟩, .string ⟨#[]⟩, .int .i64 2, .bool false, .bool false] 36)
  have hlt := hx2.lt
  have hB1 := hB.trans (hb1.mono hB.size)
  have hB2 := hB1.trans (hb2.mono hB1.size)
  have hB3 := hB2.alloc hB2.size (.cells #[.int .i64 1, .string T, .string R, .string ⟨#[]⟩, .string ⟨#[]⟩, .int .i64 2, .bool false, .bool false] 36)
  generalize hA : w2.heap.size = A at hy2 hlt
  generalize hW3 : w2.alloc (.cells #[.int .i64 1, .string T, .string R, .string ⟨#[]⟩, .string ⟨#[]⟩, .int .i64 2, .bool false, .bool false] 36) = W3 at hx3 hy2 hB3
  have HW3 := hide' hW3
  clear hW3 hx2 hx hb1 hb2 hB1 hB2 hA
  have yc1 := hy2.c1
  go_wp2_with (go_at_call 54; refine (kM _).mono ?_; rintro e w3 ⟨rfl, hb3⟩; have hx4 := hx3.below hb3; have hy4 := hy2.below hb3; have cc0 := hx4.c0; have cf0 := hx4.fz 0; have cc1 := hx4.c1; have cf1 := hx4.fz 1; have cc2 := hx4.c2; have cf2 := hx4.fz 2; have cc3 := hx4.c3; have cf3 := hx4.fz 3; have cc4 := hx4.c4; have cf4 := hx4.fz 4; have cc5 := hx4.c5; have cf5 := hx4.fz 5; have cc6 := hx4.c6; have cf6 := hx4.fz 6; have cc7 := hx4.c7; have cf7 := hx4.fz 7; have yc0 := hy4.c0; have yf0 := hy4.fz 0; have yc1 := hy4.c1; have yf1 := hy4.fz 1; have yc2 := hy4.c2; have yf2 := hy4.fz 2; have yc3 := hy4.c3; have yf3 := hy4.fz 3; have yc4 := hy4.c4; have yf4 := hy4.fz 4; have yc5 := hy4.c5; have yf5 := hy4.fz 5; have yc6 := hy4.c6; have yf6 := hy4.fz 6; have yc7 := hy4.c7; have yf7 := hy4.fz 7; have HX := hide' hx4; have HY := hide' hy4; clear hx4 hy4)
  have hne : w.heap.size ≠ A := by omega
  have hx5 := ((HX.out.other hne 1 (.string M)).other hne 5 (.int .i64 m)).set (k' := 1) (l' := M) (r' := R) (n' := ⟨#[]⟩) (c' := ⟨#[]⟩) (s' := m) (d' := false) (h' := false)
  have e0 := hx5.c0
  have e1 := hx5.c1
  have e2 := hx5.c2
  have e3 := hx5.c3
  have e4 := hx5.c4
  have e5 := hx5.c5
  have e6 := hx5.c6
  have e7 := hx5.c7
  refine bodyPost_ret (by simp [results, Tryz.results33, go_sem, e0, e1, e2, e3, e4, e5, e6, e7]; rfl) rfl ?_
  have hB4 := hB3.trans (hb3.mono hB3.size)
  have hbA : w.heap.size ≤ A := by omega
  exact ⟨rfl, put8_below ((hB4.setCell (p := ⟨A, 1, none⟩) hbA _).setCell (p := ⟨A, 5, none⟩) hbA _) (Nat.le_refl _) _ _ _ _ _ _ _ _⟩
theorem asg_any (l r : ByteArray) (b : Bool) (hl : l.size ≤ 1000000) (hr : r.size ≤ 1000000) (w : World) : Calls Tryz.prog 33 #[.string l, .string r, .bool b] w fun e w' => e = .returned (hv (asgB l r b)) ∧ Below w.heap.size w w' := by
  cases b with
  | true => exact asg_yes l r hl hr w
  | false => exact asg_no l r hl hr w
end Go.Proofs.YthkjinhnnilalaaGreatDoor
