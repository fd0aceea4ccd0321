/- Parts, plain and in memory; the contract of refs.variable. -/
import Derived.Test.YtaemmgllhmjceaaDoorRarg
import Derived.Test.YtaemmgllhmjceaaDoorTr
namespace Go.Proofs.YtaemmgllhmjceaaDoor
open Go.RowKit

/-- a part -/
structure Pt where
  kind : Int
  text : Bs
  name : Bs
  args : List Bs
def vr (l : Bs) : Pt := ⟨2, l, [], []⟩
/-- what stands within brackets -/
def ins (l : Bs) : Pt := if ia l < 0 then vr l else match fnd (l.take (ia l).toNat) with
  | none => vr l
  | some f => ⟨3, [], f.1, arg f.2.2 [] [] [] ((l.drop (ia l).toNat).dropWhile bl)⟩
/-- a part's value, its arguments' row being av -/
abbrev ptV (p : Pt) (av : Value) : Value := .agg #[.int .i64 p.kind, .string (mk p.text), .string (mk p.name), av]
/-- a part that a call has made: its arguments' row is of its own -/
def PtAt (w : World) (B : Nat) (v : Value) (p : Pt) : Prop := ∃ av, v = ptV p av ∧ w.ownsRow B 9 1 av p.args.length (p.args.map sV)
theorem PtAt.below {w w' : World} {B : Nat} {v : Value} {p : Pt} (h : PtAt w B v p) (hb : Below w.heap.size w w') : PtAt w' B v p := by
  obtain ⟨av, e, hr⟩ := h
  exact ⟨av, e, own_below hr hb⟩
theorem info30 : (Tryd.prog.info? 30).map (fun i : TypeInfo => (i.zero, i.size, i.bytes)) = some (some (.agg #[.int .i64 0, .string ⟨#[]⟩, .string ⟨#[]⟩, .slice none 0 0]), 4, 64) := by kernel_rfl
/-- a part in a block of its own -/
def Bx4 (w : World) (b : Nat) (k : Int) (t n : ByteArray) (a : Value) : Prop := w.heap[b]? = some (.cells #[.int .i64 k, .string t, .string n, a] 30 (0, 0))
section
variable {w : World} {b : Nat} {k : Int} {t n : ByteArray} {a : Value}
theorem Bx4.c0 (h : Bx4 w b k t n a) : w.cell? ⟨b, 0, none⟩ = some (.int .i64 k) := by unfold Bx4 at h; rw [Lib.cell_of_heap h]; rfl
theorem Bx4.c1 (h : Bx4 w b k t n a) : w.cell? ⟨b, 1, none⟩ = some (.string t) := by unfold Bx4 at h; rw [Lib.cell_of_heap h]; rfl
theorem Bx4.c2 (h : Bx4 w b k t n a) : w.cell? ⟨b, 2, none⟩ = some (.string n) := by unfold Bx4 at h; rw [Lib.cell_of_heap h]; rfl
theorem Bx4.c3 (h : Bx4 w b k t n a) : w.cell? ⟨b, 3, none⟩ = some a := by unfold Bx4 at h; rw [Lib.cell_of_heap h]; rfl
theorem Bx4.fz (h : Bx4 w b k t n a) (j : Nat) : w.frozen? ⟨b, j, none⟩ = false := Lib.frozen_of_heap h j
theorem Bx4.lt (h : Bx4 w b k t n a) : b < w.heap.size := lt_of_block h
theorem Bx4.below {w' : World} (h : Bx4 w b k t n a) (hb : Below w.heap.size w w') : Bx4 w' b k t n a := (hb.block b h.lt).trans h
end
/-- a part is stored -/
abbrev put4 (W : World) (b : Nat) (k : Int) (t n : ByteArray) (a : Value) : World := (((W.setCell ⟨b, 0, none⟩ (.int .i64 k)).setCell ⟨b, 1, none⟩ (.string t)).setCell ⟨b, 2, none⟩ (.string n)).setCell ⟨b, 3, none⟩ a
theorem Bx4.set {w : World} {b : Nat} {k k' : Int} {t n t' n' : ByteArray} {a a' : Value} (h : Bx4 w b k t n a) : Bx4 (put4 w b k' t' n' a') b k' t' n' a' :=
  set_block (set_block (set_block (set_block h 0 (.int .i64 k')) 1 (.string t')) 2 (.string n')) 3 a'
theorem put4_below {B : Nat} {w W : World} (h : Below B w W) {b : Nat} (hb : B ≤ b) (k : Int) (t n : ByteArray) (a : Value) : Below B w (put4 W b k t n a) :=
  (((h.setCell hb _).setCell hb _).setCell hb _).setCell hb _
theorem put4_other (W : World) (b j : Nat) (hj : j ≠ b) (k : Int) (t n : ByteArray) (a : Value) : (put4 W b k t n a).heap[j]? = W.heap[j]? :=
  (set_other _ _ _ _ hj).trans ((set_other _ _ _ _ hj).trans ((set_other _ _ _ _ hj).trans (set_other _ _ _ _ hj)))
theorem bx4_new (w : World) : Bx4 (w.alloc (.cells #[.int .i64 0, .string ⟨#[]⟩, .string ⟨#[]⟩, .slice none 0 0] 30)) w.heap.size 0 ⟨#[]⟩ ⟨#[]⟩ (.slice none 0 0) := heap_alloc_new w _
set_option maxHeartbeats 1000000 in
theorem variable_any (s : ByteArray) (hs : s.size ≤ 1000000) (w : World) :
    Calls Tryd.prog 23 #[.string s] w fun e w' => e = .returned (.agg #[.int .i64 2, .string s, .string ⟨#[]⟩, .slice none 0 0]) ∧ Below w.heap.size w w' := by
  have hx := bx4_new w
  have hB : Below w.heap.size w (w.alloc (.cells #[.int .i64 0, .string ⟨#[]⟩, .string ⟨#[]⟩, .slice none 0 0] 30)) := (Below.refl _ w).alloc (Nat.le_refl _) _
  have kC := fun w => clone_any s w (by omega)
  go_enter Tryd.func23, Tryd.ntmps23
  go_wp2_with (go_at_call 29; refine (kC _).mono ?_; rintro e w1 ⟨rfl, hb1⟩; have hx1 := hx.below hb1; have c0 := hx1.c0; have c1 := hx1.c1; have c2 := hx1.c2; have c3 := hx1.c3; have f0 := hx1.fz 0; have f1 := hx1.fz 1; have f2 := hx1.fz 2; have f3 := hx1.fz 3; have HX := hide' hx1; clear hx1 hx)
  have hx2 := HX.out.set (k' := 2) (t' := s) (n' := ⟨#[]⟩) (a' := .slice none 0 0)
  have e0 := hx2.c0
  have e1 := hx2.c1
  have e2 := hx2.c2
  have e3 := hx2.c3
  refine bodyPost_ret (by simp [results, Tryd.results23, go_sem, e0, e1, e2, e3]; rfl) rfl ?_
  exact ⟨rfl, put4_below (hB.trans (hb1.mono hB.size)) (Nat.le_refl _) _ _ _ _⟩
end Go.Proofs.YtaemmgllhmjceaaDoor
