/- The contracts of New, orEmpty, find, withheld, own. -/
import Derived.Test.YtillechackcbpaaVar
import Derived.Test.YtillechackcbpaaShelf
import Derived.Test.YtillechackcbpaaFloat2
namespace Go.Proofs.Ytillechackcbpaa
open Go.RowKit Go.Maps

theorem below_alloc {B : Nat} {w w' : World} (h : Below B w w') (hB : B ≤ w.heap.size) (o : Obj) : Below B w (w'.alloc o) := h.alloc (Nat.le_trans hB h.size) o
theorem new_any (w : World) : Calls Try.prog 9 #[] w fun r w' => r = .returned (.pointer (some ⟨w.heap.size, 0, none⟩)) ∧ w' = w.alloc (.cells #[.map none] 54) := by
  go_enter Try.func9, Try.ntmps9
  go_wp2
  go_ret
  exact ⟨rfl, rfl⟩
theorem st_new (w : World) : St (w.alloc (.cells #[.map none] 54)) w.heap.size none [] :=
  ⟨heap_alloc_new w _, rfl, List.Pairwise.nil, fun _ h => (by cases h), fun _ h => (by cases h), Nat.zero_le _⟩
theorem orEmpty_any (A : Nat) (w : World) : Calls Try.prog 23 #[.pointer (some ⟨A, 0, none⟩)] w fun r w' => r = .returned (.pointer (some ⟨A, 0, none⟩)) ∧ w' = w := by
  go_enter Try.func23, Try.ntmps23
  go_wp2
  go_ret
  exact ⟨rfl, rfl⟩
theorem clone_any (s : ByteArray) (w : World) (hlim : s.size ≤ 281474976710656) :
    Calls Try.prog 48 #[.string s] w fun e w' => e = .returned (.string s) ∧ Below w.heap.size w w' := by
  go_enter Try.func48, Try.ntmps48
  go_wp2_with (go_at_call 61; refine (Try.stringslite_Clone _ _ hlim).mono ?_; rintro e w' ⟨rfl, hb⟩)
  go_ret
  exact ⟨rfl, hb⟩
theorem find_any (A : Nat) (m : Option Nat) (L : Vs) (p : Bs) (w : World) (hb : Sb w A m) (hm : MpO w m L) (hp : p.length ≤ maxLen) :
    Calls Try.prog 31 #[.pointer (some ⟨A, 0, none⟩), .string (mk p)] w fun r w' => r = .returned (.tuple #[vV (getV L p), .bool (fnd L p).isSome]) ∧ Below w.heap.size w w' := by
  have c0 := hb.c0
  have hA := hb.lt
  have b1 : ∀ o, Below w.heap.size w (w.alloc o) := fun o => below_alloc (Below.refl _ _) (Nat.le_refl _) o
  have c1 : ∀ o, (w.alloc o).cell? ⟨A, 0, none⟩ = some (.map m) := fun o => ((b1 o).cell (p := ⟨A, 0, none⟩) hA).trans c0
  have hl := fun o => MpO.look2 (w := w.alloc o) (hm.kept fun M hM => (b1 o).block M (hm.lt M hM)) p hp
  generalize getV L p = g at hl ⊢
  generalize (fnd L p).isSome = b at hl ⊢
  obtain ⟨gn, gv, gf, go, ge⟩ := g
  dsimp only [vV] at hl ⊢
  generalize mk gn = gn at hl ⊢
  generalize mk gv = gv at hl ⊢
  go_enter Try.func31, Try.ntmps31
  go_wp2
  refine bodyPost_ret (by simp [results, Try.results31, go_sem]; rfl) rfl ?_
  exact ⟨rfl, below_alloc (b1 _) (Nat.le_refl _) _⟩
/-- a greater origin's -/
def held (L : Vs) (p : Bs) (o : Int) : Bool := (fnd L p).isSome && decide (o < (getV L p).origin)
theorem withheld_any (A : Nat) (m : Option Nat) (L : Vs) (p : Bs) (o : Int) (w : World) (hb : Sb w A m) (hm : MpO w m L) (hp : p.length ≤ maxLen) :
    Calls Try.prog 33 #[.pointer (some ⟨A, 0, none⟩), .string (mk p), .int .i64 o] w fun r w' => r = .returned (.bool (held L p o)) ∧ Below w.heap.size w w' := by
  have q := find_any A m L p w hb hm hp
  unfold held
  generalize getV L p = g at q ⊢
  generalize (fnd L p).isSome = b at q ⊢
  obtain ⟨gn, gv, gf, go, ge⟩ := g
  dsimp only [vV] at q ⊢
  generalize mk gn = gn at q ⊢
  generalize mk gv = gv at q ⊢
  clear hb hm
  go_enter Try.func33, Try.ntmps33
  go_wp2_with fail
  refine q.mono ?_
  rintro r w1 ⟨rfl, hb1⟩
  cases b with
  | false =>
    go_wp2
    go_ret
    exact ⟨rfl, below_alloc hb1 (Nat.le_refl _) _⟩
  | true =>
    go_wp2
    go_ret
    exact ⟨rfl, below_alloc hb1 (Nat.le_refl _) _⟩
/-- a variable in a block of its own -/
def Bx (w : World) (b : Nat) (n v : ByteArray) (f o e : Int) : Prop := w.heap[b]? = some (.cells #[.string n, .string v, .int .i64 f, .int .i64 o, .int .i64 e] 36 (0, 0))
theorem Bx.c0 {w : World} {b : Nat} {n v : ByteArray} {f o e : Int} (h : Bx w b n v f o e) : w.cell? ⟨b, 0, none⟩ = some (.string n) := by unfold Bx at h; rw [Lib.cell_of_heap h]; rfl
theorem Bx.c1 {w : World} {b : Nat} {n v : ByteArray} {f o e : Int} (h : Bx w b n v f o e) : w.cell? ⟨b, 1, none⟩ = some (.string v) := by unfold Bx at h; rw [Lib.cell_of_heap h]; rfl
theorem Bx.c2 {w : World} {b : Nat} {n v : ByteArray} {f o e : Int} (h : Bx w b n v f o e) : w.cell? ⟨b, 2, none⟩ = some (.int .i64 f) := by unfold Bx at h; rw [Lib.cell_of_heap h]; rfl
theorem Bx.c3 {w : World} {b : Nat} {n v : ByteArray} {f o e : Int} (h : Bx w b n v f o e) : w.cell? ⟨b, 3, none⟩ = some (.int .i64 o) := by unfold Bx at h; rw [Lib.cell_of_heap h]; rfl
theorem Bx.c4 {w : World} {b : Nat} {n v : ByteArray} {f o e : Int} (h : Bx w b n v f o e) : w.cell? ⟨b, 4, none⟩ = some (.int .i64 e) := by unfold Bx at h; rw [Lib.cell_of_heap h]; rfl
theorem Bx.fz {w : World} {b : Nat} {n v : ByteArray} {f o e : Int} (h : Bx w b n v f o e) (j : Nat) : w.frozen? ⟨b, j, none⟩ = false := Lib.frozen_of_heap h j
theorem Bx.lt {w : World} {b : Nat} {n v : ByteArray} {f o e : Int} (h : Bx w b n v f o e) : b < w.heap.size := lt_of_block h
theorem Bx.below {w w' : World} {b : Nat} {n v : ByteArray} {f o e : Int} (h : Bx w b n v f o e) (hb : Below w.heap.size w w') : Bx w' b n v f o e := (hb.block b h.lt).trans h
theorem set_row {w : World} {A : Nat} {cs : Array Value} {T : TypeId} (h : w.heap[A]? = some (.cells cs T (0, 0))) (j : Nat) (v : Value) :
    (w.setCell ⟨A, j, none⟩ v).heap[A]? = some (.cells (cs.setIfInBounds j v) T (0, 0)) := by
  have hlt := lt_of_block h
  have h' : w.heap[A] = .cells cs T (0, 0) := by simpa [Array.getElem?_eq_getElem hlt] using h
  show (w.heap.modify A _)[A]? = _
  rw [Array.getElem?_eq_getElem (by simpa using hlt), Array.getElem_modify_self, h']
  rfl
/-- a variable is stored -/
abbrev put5 (W : World) (b : Nat) (n v : ByteArray) (f o e : Int) : World := ((((W.setCell ⟨b, 0, none⟩ (.string n)).setCell ⟨b, 1, none⟩ (.string v)).setCell ⟨b, 2, none⟩ (.int .i64 f)).setCell ⟨b, 3, none⟩ (.int .i64 o)).setCell ⟨b, 4, none⟩ (.int .i64 e)
theorem Bx.set {w : World} {b : Nat} {n v : ByteArray} {f o e : Int} (h : Bx w b n v f o e) (n' v' : ByteArray) (f' o' e' : Int) : Bx (put5 w b n' v' f' o' e') b n' v' f' o' e' :=
  set_row (set_row (set_row (set_row (set_row h 0 (.string n')) 1 (.string v')) 2 (.int .i64 f')) 3 (.int .i64 o')) 4 (.int .i64 e')
theorem put5_below {B : Nat} {w W : World} (h : Below B w W) {b : Nat} (hb : B ≤ b) (n v : ByteArray) (f o e : Int) : Below B w (put5 W b n v f o e) :=
  ((((h.setCell hb _).setCell hb _).setCell hb _).setCell hb _).setCell hb _
theorem put5_other (W : World) (b k : Nat) (hk : k ≠ b) (n v : ByteArray) (f o e : Int) : (put5 W b n v f o e).heap[k]? = W.heap[k]? :=
  (Below.heap_setCell _ _ _ _ hk).trans ((Below.heap_setCell _ _ _ _ hk).trans ((Below.heap_setCell _ _ _ _ hk).trans ((Below.heap_setCell _ _ _ _ hk).trans (Below.heap_setCell _ _ _ _ hk))))
set_option maxHeartbeats 1000000 in
theorem own_any (v : Vr) (w : World) (h1 : v.name.length ≤ 281474976710656) (h2 : v.value.length ≤ 281474976710656) :
    Calls Try.prog 26 #[vV v] w fun r w' => r = .returned (vV v) ∧ Below w.heap.size w w' := by
  obtain ⟨gn, gv, gf, go, ge⟩ := v
  have q1 := fun W => clone_any (mk gn) W (by rw [mk_size]; exact h1)
  have q2 := fun W => clone_any (mk gv) W (by rw [mk_size]; exact h2)
  dsimp only [vV]
  generalize mk gn = gn at q1 ⊢
  generalize mk gv = gv at q2 ⊢
  have hB : Bx (w.alloc (.cells #[.string gn, .string gv, .int .i64 gf, .int .i64 go, .int .i64 ge] 36)) w.heap.size gn gv gf go ge := heap_alloc_new w _
  go_enter Try.func26, Try.ntmps26
  go_wp2
  refine wp_region_class (C := fun W => Bx W w.heap.size gn gv gf go ge) (by kernel_rfl) ?_
  have hC : Bx ((w.alloc (.cells #[.string gn, .string gv, .int .i64 gf, .int .i64 go, .int .i64 ge] 36)).alloc (.cells #[.string ⟨#[]⟩, .string ⟨#[]⟩, .int .i64 0, .int .i64 0, .int .i64 0] 36)).drew w.heap.size gn gv gf go ge := (Below.heap_alloc _ _ _ (by simp)).trans hB
  (refine wpAnyC_take (i := 0) (v := ?_) hC rfl (by kernel_rfl) (by kernel_rfl) (by kernel_rfl) (fun _ _ _ h => h) (Or.inl ⟨by kernel_rfl, ?_⟩) ?_; rotate_left; (intro w hc; have k0 := hc.c0; have k1 := hc.c1; clear hc; go_simp; try with_reducible rfl))
  (refine wpAnyC_take (i := 1) (v := ?_) hC rfl (by kernel_rfl) (by kernel_rfl) (by kernel_rfl) (fun _ _ _ h => h) (Or.inl ⟨by kernel_rfl, ?_⟩) ?_; rotate_left; (intro w hc; have k0 := hc.c0; have k1 := hc.c1; clear hc; go_simp; try with_reducible rfl))
  (refine wpAnyC_take (i := 3) (v := ?_) hC rfl (by kernel_rfl) (by kernel_rfl) (by kernel_rfl) (fun _ _ _ h => h) (Or.inl ⟨by kernel_rfl, ?_⟩) ?_; rotate_left; (intro w hc; have k0 := hc.c0; have k1 := hc.c1; clear hc; go_simp; try with_reducible rfl))
  (refine wpAnyC_take (i := 4) (v := ?_) hC rfl (by kernel_rfl) (by kernel_rfl) (by kernel_rfl) (fun _ _ _ h => h) (Or.inl ⟨by kernel_rfl, ?_⟩) ?_; rotate_left; (intro w hc; have k0 := hc.c0; have k1 := hc.c1; clear hc; go_simp; try with_reducible rfl))
  refine wpAnyC_one (i := 2) (by kernel_rfl) (wpOp_wanted rfl (by rfl) ?_)
  go_simp
  refine (q1 _).mono ?_
  rintro r w1 ⟨rfl, hb1⟩
  dsimp only
  have hC1 := hC.below hb1
  refine ⟨hC1, ?_⟩
  (refine wpAnyC_take (i := 6) (v := ?_) hC1 rfl (by kernel_rfl) (by kernel_rfl) (by kernel_rfl) (fun _ _ _ h => h) (Or.inl ⟨by kernel_rfl, ?_⟩) ?_; rotate_left; (intro w hc; have k0 := hc.c0; have k1 := hc.c1; clear hc; go_simp; try with_reducible rfl))
  refine wpAnyC_one (i := 5) (by kernel_rfl) (wpOp_wanted rfl (by rfl) ?_)
  go_simp
  refine (q2 _).mono ?_
  rintro r w2 ⟨rfl, hb2⟩
  dsimp only
  have hC2 := hC1.below hb2
  have k0 := hC2.c0
  have z0 := hC2.fz 0
  refine ⟨hC2, ?_⟩
  refine wpAnyC_one (i := 7) (by kernel_rfl) (wpOp_wanted rfl (by rfl) ?_)
  go_simp
  have hC3 : Bx (w2.setCell ⟨w.heap.size, 0, none⟩ (.string gn)) w.heap.size gn gv gf go ge := set_row hC2 0 _
  refine ⟨hC3, ?_⟩
  (refine wpAnyC_take (i := 8) (v := ?_) hC3 rfl (by kernel_rfl) (by kernel_rfl) (by kernel_rfl) (fun _ _ _ h => h) (Or.inl ⟨by kernel_rfl, ?_⟩) ?_; rotate_left; (intro w hc; have k0 := hc.c0; have k1 := hc.c1; clear hc; go_simp; try with_reducible rfl))
  have k1 := hC3.c1
  have z1 := hC3.fz 1
  refine wpAnyC_one (i := 9) (by kernel_rfl) (wpOp_wanted rfl (by rfl) ?_)
  go_simp
  have hC4 : Bx ((w2.setCell ⟨w.heap.size, 0, none⟩ (.string gn)).setCell ⟨w.heap.size, 1, none⟩ (.string gv)) w.heap.size gn gv gf go ge := set_row hC3 1 _
  refine ⟨hC4, wpAnyC_done (by kernel_rfl) ?_ _⟩
  have hz0 : Bx ((w.alloc (.cells #[.string gn, .string gv, .int .i64 gf, .int .i64 go, .int .i64 ge] 36)).alloc (.cells #[.string ⟨#[]⟩, .string ⟨#[]⟩, .int .i64 0, .int .i64 0, .int .i64 0] 36)).drew (w.heap.size + 1) ⟨#[]⟩ ⟨#[]⟩ 0 0 0 := by
    have := heap_alloc_new (w.alloc (.cells #[.string gn, .string gv, .int .i64 gf, .int .i64 go, .int .i64 ge] 36)) (.cells #[.string ⟨#[]⟩, .string ⟨#[]⟩, .int .i64 0, .int .i64 0, .int .i64 0] 36)
    rw [World.size_alloc] at this
    exact this
  have hz2 := (hz0.below hb1).below hb2
  have hz4 : Bx ((w2.setCell ⟨w.heap.size, 0, none⟩ (.string gn)).setCell ⟨w.heap.size, 1, none⟩ (.string gv)) (w.heap.size + 1) ⟨#[]⟩ ⟨#[]⟩ 0 0 0 := (Below.heap_setCell _ _ _ _ (by simp)).trans ((Below.heap_setCell _ _ _ _ (by simp)).trans hz2)
  have hbe : Below w.heap.size w ((w2.setCell ⟨w.heap.size, 0, none⟩ (.string gn)).setCell ⟨w.heap.size, 1, none⟩ (.string gv)) := by
    have b0 : Below w.heap.size w ((w.alloc (.cells #[.string gn, .string gv, .int .i64 gf, .int .i64 go, .int .i64 ge] 36)).alloc (.cells #[.string ⟨#[]⟩, .string ⟨#[]⟩, .int .i64 0, .int .i64 0, .int .i64 0] 36)).drew := (below_alloc (below_alloc (Below.refl _ _) (Nat.le_refl _) _) (Nat.le_refl _) _).drew
    have b2 := (b0.trans (hb1.mono b0.size)).trans (hb2.mono (b0.trans (hb1.mono b0.size)).size)
    exact (b2.setCell (Nat.le_refl _) _).setCell (Nat.le_refl _) _
  generalize ((w2.setCell ⟨w.heap.size, 0, none⟩ (.string gn)).setCell ⟨w.heap.size, 1, none⟩ (.string gv)) = W at hC4 hz4 hbe ⊢
  clear hC hC1 hC2 hC3 hz0 hz2 hb1 hb2 k0 k1 z0 z1 hB q1 q2
  have a0 := hC4.c0
  have a1 := hC4.c1
  have a2 := hC4.c2
  have a3 := hC4.c3
  have a4 := hC4.c4
  have e0 := hz4.c0
  have e1 := hz4.c1
  have e2 := hz4.c2
  have e3 := hz4.c3
  have e4 := hz4.c4
  have z0 := hz4.fz 0
  have z1 := hz4.fz 1
  have z2 := hz4.fz 2
  have z3 := hz4.fz 3
  have z4 := hz4.fz 4
  go_wp2
  have hF := hz4.set gn gv gf go ge
  have hbF := put5_below hbe (Nat.le_succ _) gn gv gf go ge
  dsimp only [put5] at hF hbF
  generalize ((((W.setCell ⟨w.heap.size + 1, 0, none⟩ (.string gn)).setCell ⟨w.heap.size + 1, 1, none⟩ (.string gv)).setCell ⟨w.heap.size + 1, 2, none⟩ (.int .i64 gf)).setCell ⟨w.heap.size + 1, 3, none⟩ (.int .i64 go)).setCell ⟨w.heap.size + 1, 4, none⟩ (.int .i64 ge) = W' at hF hbF ⊢
  clear a0 a1 a2 a3 a4 e0 e1 e2 e3 e4 z0 z1 z2 z3 z4 hC4 hz4
  have e0 := hF.c0
  have e1 := hF.c1
  have e2 := hF.c2
  have e3 := hF.c3
  have e4 := hF.c4
  refine bodyPost_ret (by simp [results, Try.results26, go_sem, e0, e1, e2, e3, e4]; rfl) rfl ?_
  exact ⟨rfl, hbF⟩
end Go.Proofs.Ytillechackcbpaa
