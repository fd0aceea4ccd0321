/- The contract of (*FS).look. -/
import Derived.Test.YtabmnkddmdffkaaGreatDoorAEnds
import Derived.Test.YtabmnkddmdffkaaGreatDoorAZr
namespace Go.Proofs.YtabmnkddmdffkaaGreatDoor
open Go.RowKit Go.Shelf
attribute [local go_sem] Oper.semAt_some

/-- the variables of the packages: the one error of vfs, and the type of errors -/
structure Glo (B : Nat) (w : World) (E : Addr) : Prop where
  c0 : w.cell? ⟨1, 0, none⟩ = some (.iface 289 (.pointer (some E)))
  c1 : w.cell? ⟨2, 0, none⟩ = some (.iface 146 (.agg #[.pointer (some ⟨12, 62, none⟩)]))
  lo : 2 < B
theorem Glo.keep {B : Nat} {E : Addr} {w w' : World} (h : Glo B w E) (hb : Below B w w') : Glo B w' E :=
  ⟨(hb.cell (p := ⟨1, 0, none⟩) (by have := h.lo; simp only; omega)).trans h.c0, (hb.cell (p := ⟨2, 0, none⟩) h.lo).trans h.c1, h.lo⟩
/-- a fault that holds the one error -/
def FltN (w : World) (b : Nat) (E : Addr) : Prop := ∃ p, w.heap[b]? = some (.cells #[.string p, .iface 289 (.pointer (some E))] 107 (0, 0))
def isDir (e : En) : Bool := e.nd.dir
def rootAt (b : Nat) : En := ⟨b, .slice none 0 0, ⟨true, 0, []⟩⟩
/-- what looking for a path answers -/
def LkRes (N : Nat) (w' : World) (r : Ending) (E : Addr) : Lk En → Prop
  | .bad n => ∃ b, r = .returned (.tuple #[.pointer none, .iface 105 (.pointer (some ⟨b, 0, none⟩))]) ∧ Flt w' b n
  | .non => ∃ b, r = .returned (.tuple #[.pointer none, .iface 105 (.pointer (some ⟨b, 0, none⟩))]) ∧ FltN w' b E
  | .rt => ∃ b, N ≤ b ∧ r = .returned (.tuple #[.pointer (some ⟨b, 0, none⟩), .nilIface]) ∧ NodeAt w' (rootAt b)
  | .is e => r = .returned (.tuple #[.pointer (some ⟨e.blk, 0, none⟩), .nilIface])
def lookV (L : Ents) (p : Bs) : Lk En := if valid p then lookP isDir L p else .bad 16

theorem eq_ptr_nil (b : Nat) (w : World) : (binOp .eql 97 (.pointer (some ⟨b, 0, none⟩)) (.pointer none)).run Tryz.prog w = .ok (.bool false) w := by kernel_rfl
theorem eq_nil_nil (w : World) : (binOp .eql 97 (.pointer none) (.pointer none)).run Tryz.prog w = .ok (.bool true) w := by kernel_rfl

theorem box_below {W W' : World} {b : Nat} {t : TypeId} {v : Value} (h : Boxed W b t v) (hb : Below W.heap.size W W') : Boxed W' b t v := (hb.block b (lt_of_block h)).trans h
/-- the four blocks that look lays first -/
def lk0 (w : World) (A : Nat) (p : Bs) : World := (((w.alloc (.cells #[.pointer (some ⟨A, 0, none⟩)] 30)).alloc (.cells #[.string (mk p)] 9)).alloc (.cells #[.pointer none] 97)).alloc (.cells #[.nilIface] 62)
theorem lk0_size (w : World) (A : Nat) (p : Bs) : (lk0 w A p).heap.size = w.heap.size + 4 := by simp [lk0]
theorem lk0_below (w : World) (A : Nat) (p : Bs) : Below w.heap.size w (lk0 w A p) := ((((Below.refl _ w).alloc (Nat.le_refl _) _).alloc (by simp) _).alloc (by simp; omega) _).alloc (by simp; omega) _
theorem lk0_f (w : World) (A : Nat) (p : Bs) : Boxed (lk0 w A p) w.heap.size 30 (.pointer (some ⟨A, 0, none⟩)) := (((Boxed.new w 30 _).alloc _).alloc _).alloc _
theorem lk0_p (w : World) (A : Nat) (p : Bs) : Boxed (lk0 w A p) (w.heap.size + 1) 9 (.string (mk p)) := by
  have := ((Boxed.new (w.alloc (.cells #[.pointer (some ⟨A, 0, none⟩)] 30)) 9 (.string (mk p))).alloc (.cells #[.pointer none] 97)).alloc (.cells #[.nilIface] 62)
  rw [World.size_alloc] at this
  exact this
theorem lk0_n (w : World) (A : Nat) (p : Bs) : Boxed (lk0 w A p) (w.heap.size + 1 + 1) 97 (.pointer none) := by
  have := (Boxed.new ((w.alloc (.cells #[.pointer (some ⟨A, 0, none⟩)] 30)).alloc (.cells #[.string (mk p)] 9)) 97 (.pointer none)).alloc (.cells #[.nilIface] 62)
  rw [World.size_alloc, World.size_alloc] at this
  exact this
theorem lk0_e (w : World) (A : Nat) (p : Bs) : Boxed (lk0 w A p) (w.heap.size + 1 + 1 + 1) 62 .nilIface := by
  have := Boxed.new (((w.alloc (.cells #[.pointer (some ⟨A, 0, none⟩)] 30)).alloc (.cells #[.string (mk p)] 9)).alloc (.cells #[.pointer none] 97)) 62 .nilIface
  rw [World.size_alloc, World.size_alloc, World.size_alloc] at this
  exact this
theorem res57 (tmps : Array Value) (Rn Re : Nat) (x y : Value) (W : World) (h4 : tmps.getD 4 undef = .pointer (some ⟨Rn, 0, none⟩)) (h5 : tmps.getD 5 undef = .pointer (some ⟨Re, 0, none⟩)) (cx : W.cell? ⟨Rn, 0, none⟩ = some x) (cy : W.cell? ⟨Re, 0, none⟩ = some y) :
    (results Tryz.f72 tmps).run Tryz.prog W = .ok (.tuple #[x, y]) W := by
  simp only [Array.getD_eq_getD_getElem?] at h4 h5
  simp [results, Tryz.results72, go_sem, h4, h5, cx, cy]
/-- the world behind 'return nil, &fault{p, x}' -/
def fltW (W : World) (Rn Re : Nat) (p : ByteArray) (x : Value) : World :=
  ((W.setCell ⟨Rn, 0, none⟩ (.pointer none)).setCell ⟨Re, 0, none⟩ (.iface 105 (.pointer (some ⟨W.heap.size, 0, none⟩)))).alloc (.cells #[.string p, x] 107)
theorem fltW_n {W : World} {Rn Re : Nat} {p : ByteArray} {x v : Value} (hn : Boxed W Rn 97 v) (hne : Rn ≠ Re) : Boxed (fltW W Rn Re p x) Rn 97 (.pointer none) :=
  Boxed.alloc ((Below.heap_setCell _ _ _ _ hne).trans (hn.set (.pointer none))) _
theorem fltW_e {W : World} {Rn Re : Nat} {p : ByteArray} {x v : Value} (he : Boxed W Re 62 v) (hne : Rn ≠ Re) : Boxed (fltW W Rn Re p x) Re 62 (.iface 105 (.pointer (some ⟨W.heap.size, 0, none⟩))) := by
  have h1 : Boxed (W.setCell ⟨Rn, 0, none⟩ (.pointer none)) Re 62 v := (Below.heap_setCell _ _ _ _ hne.symm).trans he
  exact Boxed.alloc (h1.set _) _
theorem fltW_f (W : World) (Rn Re : Nat) (p : ByteArray) (x : Value) : (fltW W Rn Re p x).heap[W.heap.size]? = some (.cells #[.string p, x] 107 (0, 0)) := by
  obtain ⟨X, hX⟩ : ∃ X, X = (W.setCell ⟨Rn, 0, none⟩ (.pointer none)).setCell ⟨Re, 0, none⟩ (.iface 105 (.pointer (some ⟨W.heap.size, 0, none⟩))) := ⟨_, rfl⟩
  have hz : X.heap.size = W.heap.size := by rw [hX]; simp
  unfold fltW
  rw [← hX, ← hz]
  exact World.alloc_heap_new X _
theorem fltW_below {B : Nat} {w W : World} {Rn Re : Nat} (p : ByteArray) (x : Value) (h : Below B w W) (h1 : B ≤ Rn) (h2 : B ≤ Re) (hB : B ≤ W.heap.size) : Below B w (fltW W Rn Re p x) :=
  ((h.setCell (p := ⟨Rn, 0, none⟩) h1 _).setCell (p := ⟨Re, 0, none⟩) h2 _).alloc (by simpa using hB) _
theorem fltW_size (W : World) (Rn Re : Nat) (p : ByteArray) (x : Value) : (fltW W Rn Re p x).heap.size = W.heap.size + 1 := by simp [fltW]
set_option maxRecDepth 100000 in
set_option maxHeartbeats 2000000 in
theorem look_bad (A : Nat) (p : Bs) (w : World) (E : Addr) (hp : p.length ≤ 1000000) (hv : valid p = false) :
    Calls Tryz.prog 72 #[.pointer (some ⟨A, 0, none⟩), .string (mk p)] w fun r w' => LkRes w.heap.size w' r E (.bad 16) ∧ Below w.heap.size w w' := by
  have q := fun w => valid_any (mk p) w (by rw [mk_size]; exact hp)
  simp only [tl_mk p, hv] at q
  refine (callsIn_wide (n := 5)).1 ?_
  refine callsIn_of_wp_marks Tryz.func72 rfl trivial ?_ rfl
  simp only [Tryz.ntmps72, List.size_toArray, List.length_cons, List.length_nil, Nat.reduceAdd, Nat.reduceSub, Array.replicate_succ, Array.replicate_zero, List.push_toArray, List.append_toArray, List.nil_append, List.cons_append]
  gi_wp2_with (refine ⟨trivial, ?_⟩; gi_at_call 77; refine (callsIn_wide.2 (q _)).mono ?_; rintro e w1 ⟨rfl, hb1⟩)
  have hb1 : Below (lk0 w A p).heap.size (lk0 w A p) w1 := hb1
  have hz := lk0_size w A p
  have hB : Below w.heap.size w w1 := (lk0_below w A p).trans (hb1.mono (by omega))
  have bp := box_below (lk0_p w A p) hb1
  have bn := box_below (lk0_n w A p) hb1
  have be := box_below (lk0_e w A p) hb1
  have hs1 : w.heap.size + 4 ≤ w1.heap.size := by have := hb1.size; omega
  have cp := bp.cell
  have cn := bn.cell
  have ce := be.cell
  have fn := bn.frozen
  have fe := be.frozen
  have h2 : w.heap.size + 1 + 1 < w1.heap.size := by omega
  have h3 : w.heap.size + 1 + 1 + 1 < w1.heap.size := by omega
  have be2 : ∀ v, Boxed (w1.setCell ⟨w.heap.size + 1 + 1, 0, none⟩ v) (w.heap.size + 1 + 1 + 1) 62 .nilIface := fun v => (Below.heap_setCell _ _ _ _ (by simp)).trans be
  have ce2 := fun v => (be2 v).cell
  have fe2 := fun v => (be2 v).frozen
  have ce3 := fun v o => ((be2 v).alloc o).cell
  have fe3 := fun v o => ((be2 v).alloc o).frozen
  clear hb1 hz
  gi_region
  gi_wp2
  have hn' := fltW_n (Rn := w.heap.size + 1 + 1) (Re := w.heap.size + 1 + 1 + 1) (p := mk p) (x := .iface 31 (.int .i64 16)) bn (by omega)
  have he' := fltW_e (Rn := w.heap.size + 1 + 1) (Re := w.heap.size + 1 + 1 + 1) (p := mk p) (x := .iface 31 (.int .i64 16)) be (by omega)
  exact ⟨_, res57 _ (w.heap.size + 1 + 1) (w.heap.size + 1 + 1 + 1) _ _ _ rfl rfl hn'.cell he'.cell, ⟨w1.heap.size, rfl, _, fltW_f w1 (w.heap.size + 1 + 1) (w.heap.size + 1 + 1 + 1) (mk p) _⟩, (fltW_below _ _ hB (by omega) (by omega) (by omega)).drew⟩
end Go.Proofs.YtabmnkddmdffkaaGreatDoor
