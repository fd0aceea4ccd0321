/- The contracts of Set, Get, Append, Undefine, Export. -/
import Derived.Test.YtillechackcbpaaPut
namespace Go.Proofs.Ytillechackcbpaa
open Go.RowKit Go.Maps

/-- Set: told, left -/
def setOk (L : Vs) (p : Bs) (o : Int) : Bool := !held L p o && room L p
def setL (L : Vs) (p v : Bs) (f o : Int) : Vs := if held L p o then L else putIf L ⟨p, v, f, o, (getV L p).exp⟩
set_option maxRecDepth 100000 in
set_option maxHeartbeats 1000000 in
theorem set_yes (A : Nat) (m : Option Nat) (L : Vs) (p v : Bs) (f o : Int) (w : World) (h : St w A m L) (hp : p.length ≤ 1000000) (hv : v.length ≤ 1000000) (hh : held L p o = false) :
    Calls Try.prog 16 #[.pointer (some ⟨A, 0, none⟩), .string (mk p), .string (mk v), .int .i64 f, .int .i64 o] w fun r w' => r = .returned (.bool (room L p)) ∧ ∃ m', Chg w w' A m m' (putIf L ⟨p, v, f, o, (getV L p).exp⟩) := by
  have q1 := withheld_any A m L p o w h.sb h.mp (by unfold maxLen; omega)
  rw [hh] at q1
  have q2 : Hid (∀ W, Below w.heap.size w W → Calls Try.prog 31 #[.pointer (some ⟨A, 0, none⟩), .string (mk p)] W fun r w' => r = .returned (.tuple #[vV (getV L p), .bool (fnd L p).isSome]) ∧ Below W.heap.size W w') := fun W hW => find_any A m L p W (h.below hW).sb (h.below hW).mp (by unfold maxLen; omega)
  have q3 : Hid (∀ e W, Calls Try.prog 26 #[vV ⟨p, v, f, o, e⟩] W fun r w' => r = .returned (vV ⟨p, v, f, o, e⟩) ∧ Below W.heap.size W w') := fun e W => own_any ⟨p, v, f, o, e⟩ W (by simp only; omega) (by simp only; omega)
  have q4 : Hid (∀ e W, Below w.heap.size w W → Calls Try.prog 34 #[.pointer (some ⟨A, 0, none⟩), vV ⟨p, v, f, o, e⟩] W fun r w' => r = .returned (.bool (room L p)) ∧ ∃ m', Chg w w' A m m' (putIf L ⟨p, v, f, o, e⟩)) := fun e W hW => by
    refine (put_any A m L ⟨p, v, f, o, e⟩ W (h.below hW) hp hv).mono ?_
    rintro r w' ⟨rfl, m', hc⟩
    exact ⟨rfl, m', Chg.after hW hc⟩
  clear h hh
  generalize (fnd L p).isSome = fb at q2
  generalize getV L p = g at q2 ⊢
  generalize room L p = rm at q4 ⊢
  obtain ⟨xn, xv, xf, xo, xe⟩ := g
  have q3 : Hid (_) := q3.out xe
  have q4 : Hid (_) := q4.out xe
  dsimp only [vV] at q2 q3 q4 ⊢
  generalize hP : putIf L (Vr.mk p v f o xe) = L' at q4 ⊢
  clear hP
  generalize mk p = p' at q1 q2 q3 q4 ⊢
  generalize mk v = v' at q3 q4 ⊢
  generalize mk xn = xn' at q2
  generalize mk xv = xv' at q2
  go_enter Try.func16, Try.ntmps16
  go_wp2_with fail
  refine q1.mono ?_
  rintro r w1 ⟨rfl, hb1⟩
  have Q2 := q2.out w1 hb1
  go_wp2_with fail
  refine Q2.mono ?_
  rintro r w2 ⟨rfl, hb2⟩
  have hb3 : Hid (∀ o, Below w.heap.size w (w2.alloc o)) := fun o => below_alloc (hb1.trans (hb2.mono hb1.size)) (Nat.le_refl _) o
  have c4 : (w2.alloc (.cells #[.string xn', .string xv', .int .i64 xf, .int .i64 xo, .int .i64 xe] 36)).drew.cell? ⟨w2.heap.size, 4, none⟩ = some (.int .i64 xe) := by
    have : Bx (w2.alloc (.cells #[.string xn', .string xv', .int .i64 xf, .int .i64 xo, .int .i64 xe] 36)) w2.heap.size xn' xv' xf xo xe := heap_alloc_new w2 _
    exact this.c4
  clear hb1 hb2 Q2 q2
  go_wp2
  refine wp_region_classX [11, 12] (C := fun W => W.cell? ⟨w2.heap.size, 4, none⟩ = some (.int .i64 xe)) (by kernel_rfl) ?_
  (refine wpAnyX_take (i := 0) (v := ?_) c4 rfl (by kernel_rfl) (by kernel_rfl) (by kernel_rfl) (by kernel_rfl) (fun _ _ _ h => h) (Or.inl ⟨by kernel_rfl, ?_⟩) ?_; rotate_left; (intro w hc; have k4 := hc; clear hc; go_simp; try with_reducible rfl))
  (refine wpAnyX_take (i := 1) (v := ?_) c4 rfl (by kernel_rfl) (by kernel_rfl) (by kernel_rfl) (by kernel_rfl) (fun _ _ _ h => h) (Or.inl ⟨by kernel_rfl, ?_⟩) ?_; rotate_left; (intro w hc; have k4 := hc; clear hc; go_simp; try with_reducible rfl))
  (refine wpAnyX_take (i := 2) (v := ?_) c4 rfl (by kernel_rfl) (by kernel_rfl) (by kernel_rfl) (by kernel_rfl) (fun _ _ _ h => h) (Or.inl ⟨by kernel_rfl, ?_⟩) ?_; rotate_left; (intro w hc; have k4 := hc; clear hc; go_simp; try with_reducible rfl))
  (refine wpAnyX_take (i := 3) (v := ?_) c4 rfl (by kernel_rfl) (by kernel_rfl) (by kernel_rfl) (by kernel_rfl) (fun _ _ _ h => h) (Or.inl ⟨by kernel_rfl, ?_⟩) ?_; rotate_left; (intro w hc; have k4 := hc; clear hc; go_simp; try with_reducible rfl))
  go_simp
  (refine wpAnyX_take (i := 4) (v := ?_) c4 rfl (by kernel_rfl) (by kernel_rfl) (by kernel_rfl) (by kernel_rfl) (fun _ _ _ h => h) (Or.inl ⟨by kernel_rfl, ?_⟩) ?_; rotate_left; (intro w hc; have k4 := hc; clear hc; go_simp; try with_reducible rfl))
  (refine wpAnyX_take (i := 5) (v := ?_) c4 rfl (by kernel_rfl) (by kernel_rfl) (by kernel_rfl) (by kernel_rfl) (fun _ _ _ h => h) (Or.inl ⟨by kernel_rfl, ?_⟩) ?_; rotate_left; (intro w hc; have k4 := hc; clear hc; go_simp; try with_reducible rfl))
  (refine wpAnyX_take (i := 6) (v := ?_) c4 rfl (by kernel_rfl) (by kernel_rfl) (by kernel_rfl) (by kernel_rfl) (fun _ _ _ h => h) (Or.inl ⟨by kernel_rfl, ?_⟩) ?_; rotate_left; (intro w hc; have k4 := hc; clear hc; go_simp; try with_reducible rfl))
  (refine wpAnyX_take (i := 7) (v := ?_) c4 rfl (by kernel_rfl) (by kernel_rfl) (by kernel_rfl) (by kernel_rfl) (fun _ _ _ h => h) (Or.inl ⟨by kernel_rfl, ?_⟩) ?_; rotate_left; (intro w hc; have k4 := hc; clear hc; go_simp; try with_reducible rfl))
  (refine wpAnyX_take (i := 8) (v := ?_) c4 rfl (by kernel_rfl) (by kernel_rfl) (by kernel_rfl) (by kernel_rfl) (fun _ _ _ h => h) (Or.inl ⟨by kernel_rfl, ?_⟩) ?_; rotate_left; (intro w hc; have k4 := hc; clear hc; go_simp; try with_reducible rfl))
  (refine wpAnyX_take (i := 9) (v := ?_) c4 rfl (by kernel_rfl) (by kernel_rfl) (by kernel_rfl) (by kernel_rfl) (fun _ _ _ h => h) (Or.inl ⟨by kernel_rfl, ?_⟩) ?_; rotate_left; (intro w hc; have k4 := hc; clear hc; go_simp; try with_reducible rfl))
  go_simp
  refine wpAnyX_one (i := 10) (by kernel_rfl) (wpOp_wanted rfl (by rfl) ?_)
  go_simp
  refine (q3.out _).mono ?_
  rintro r w3 ⟨rfl, hb4⟩
  dsimp only
  have hz : w2.heap.size < (w2.alloc (.cells #[.string xn', .string xv', .int .i64 xf, .int .i64 xo, .int .i64 xe] 36)).drew.heap.size := by
    show _ < (w2.alloc _).heap.size
    rw [World.size_alloc]; omega
  have c5 : w3.cell? ⟨w2.heap.size, 4, none⟩ = some (.int .i64 xe) := (hb4.cell (p := ⟨w2.heap.size, 4, none⟩) hz).trans c4
  have hb5 : Hid (Below w.heap.size w w3) := (hb3.out (.cells #[.string xn', .string xv', .int .i64 xf, .int .i64 xo, .int .i64 xe] 36)).drew.trans (hb4.mono (hb3.out _).size)
  refine ⟨c5, ?_⟩
  refine wpAnyX_one (i := 11) (by kernel_rfl) (wpOp_wanted rfl (by rfl) ?_)
  go_simp
  refine (q4.out _ hb5.out).mono ?_
  rintro r w4 ⟨rfl, m', hch⟩
  dsimp only
  go_simp
  refine wpAnyX_one (i := 12) (by kernel_rfl) (wpOp_wanted rfl (by rfl) ?_)
  go_simp
  refine wpAnyX_done (by kernel_rfl) ?_ _
  go_wp2
  go_ret
  exact ⟨rfl, m', hch⟩
theorem set_any (A : Nat) (m : Option Nat) (L : Vs) (p v : Bs) (f o : Int) (w : World) (h : St w A m L) (hp : p.length ≤ 1000000) (hv : v.length ≤ 1000000) :
    Calls Try.prog 16 #[.pointer (some ⟨A, 0, none⟩), .string (mk p), .string (mk v), .int .i64 f, .int .i64 o] w fun r w' => r = .returned (.bool (setOk L p o)) ∧ ∃ m', Chg w w' A m m' (setL L p v f o) := by
  cases hh : held L p o with
  | false =>
    unfold setOk setL
    rw [hh]
    exact set_yes A m L p v f o w h hp hv hh
  | true =>
    have q1 := withheld_any A m L p o w h.sb h.mp (by unfold maxLen; omega)
    unfold setOk setL
    rw [hh] at q1 ⊢
    rw [if_pos rfl]
    have H := hide' h
    clear h hh
    go_enter Try.func16, Try.ntmps16
    go_wp2_with fail
    refine q1.mono ?_
    rintro r w1 ⟨rfl, hb1⟩
    go_wp2
    go_ret
    exact ⟨rfl, m, Chg.same H.out hb1⟩
set_option maxHeartbeats 1000000 in
theorem get_any (A : Nat) (m : Option Nat) (L : Vs) (p : Bs) (w : World) (h : St w A m L) (hp : p.length ≤ 1000000) :
    Calls Try.prog 13 #[.pointer (some ⟨A, 0, none⟩), .string (mk p)] w fun r w' => r = .returned (.tuple #[vV (getV L p), .bool (fnd L p).isSome]) ∧ Below w.heap.size w w' := by
  have hlen : (getV L p).name.length ≤ 1000000 ∧ (getV L p).value.length ≤ 1000000 := by
    unfold getV
    cases hf : fnd L p with
    | none => exact ⟨Nat.zero_le _, Nat.zero_le _⟩
    | some e =>
      have hm := fnd_mem hf
      have h1 := h.len _ hm
      have h2 := h.nm _ hm
      simp only at h1 h2
      simp only [Option.getD]
      rw [h2]
      exact h1
  have q2 : Hid (∀ W, Below w.heap.size w W → Calls Try.prog 31 #[.pointer (some ⟨A, 0, none⟩), .string (mk p)] W fun r w' => r = .returned (.tuple #[vV (getV L p), .bool (fnd L p).isSome]) ∧ Below W.heap.size W w') := fun W hW => find_any A m L p W (h.below hW).sb (h.below hW).mp (by unfold maxLen; omega)
  have q3 : Hid (∀ W, Calls Try.prog 26 #[vV (getV L p)] W fun r w' => r = .returned (vV (getV L p)) ∧ Below W.heap.size W w') := fun W => own_any (getV L p) W (by omega) (by omega)
  clear h hlen
  generalize (fnd L p).isSome = fb at q2 ⊢
  generalize getV L p = g at q2 q3 ⊢
  obtain ⟨xn, xv, xf, xo, xe⟩ := g
  dsimp only [vV] at q2 q3 ⊢
  generalize mk xn = xn' at q2 q3 ⊢
  generalize mk xv = xv' at q2 q3 ⊢
  generalize mk p = p' at q2 ⊢
  have b1 : ∀ o, Below w.heap.size w (w.alloc o) := fun o => below_alloc (Below.refl _ _) (Nat.le_refl _) o
  go_enter Try.func13, Try.ntmps13
  go_wp2_with fail
  refine (orEmpty_any A _).mono ?_
  rintro r w0 ⟨rfl, rfl⟩
  go_wp2_with fail
  refine (q2.out _ (b1 _)).mono ?_
  rintro r w2 ⟨rfl, hb2⟩
  have hz2 : Bx w2 w.heap.size ⟨#[]⟩ ⟨#[]⟩ 0 0 0 := Bx.below (heap_alloc_new w _) hb2
  have hB2 : Below w.heap.size w w2 := (b1 _).trans (hb2.mono (b1 _).size)
  go_wp2_with fail
  refine (q3.out _).mono ?_
  rintro r w3 ⟨rfl, hb3⟩
  have hB3 : Below w.heap.size w w3 := (below_alloc hB2 (Nat.le_refl _) _).trans (hb3.mono (below_alloc hB2 (Nat.le_refl _) _).size)
  have hz3 : Bx w3 w.heap.size ⟨#[]⟩ ⟨#[]⟩ 0 0 0 := (hz2.below (below_alloc (Below.refl _ _) (Nat.le_refl _) _)).below hb3
  have e0 := hz3.c0
  have e1 := hz3.c1
  have e2 := hz3.c2
  have e3 := hz3.c3
  have e4 := hz3.c4
  have z0 := hz3.fz 0
  have z1 := hz3.fz 1
  have z2 := hz3.fz 2
  have z3 := hz3.fz 3
  have z4 := hz3.fz 4
  clear hb2 hb3 hB2 hz2 q2 q3 b1
  go_wp2
  have hF := hz3.set xn' xv' xf xo xe
  have hbF := put5_below hB3 (Nat.le_refl _) xn' xv' xf xo xe
  dsimp only [put5] at hF hbF
  generalize ((((w3.setCell ⟨w.heap.size, 0, none⟩ (.string xn')).setCell ⟨w.heap.size, 1, none⟩ (.string xv')).setCell ⟨w.heap.size, 2, none⟩ (.int .i64 xf)).setCell ⟨w.heap.size, 3, none⟩ (.int .i64 xo)).setCell ⟨w.heap.size, 4, none⟩ (.int .i64 xe) = W' at hF hbF ⊢
  clear e0 e1 e2 e3 e4 z0 z1 z2 z3 z4 hz3
  have e0 := hF.c0
  have e1 := hF.c1
  have e2 := hF.c2
  have e3 := hF.c3
  have e4 := hF.c4
  refine bodyPost_ret (by simp [results, Try.results13, go_sem, e0, e1, e2, e3, e4]; rfl) rfl ?_
  exact ⟨rfl, hbF⟩
/-- Undefine -/
def undL (L : Vs) (p : Bs) (o : Int) : Vs := if held L p o then L else del L p
theorem und_any (A : Nat) (m : Option Nat) (L : Vs) (p : Bs) (o : Int) (w : World) (h : St w A m L) (hp : p.length ≤ 1000000) :
    Calls Try.prog 20 #[.pointer (some ⟨A, 0, none⟩), .string (mk p), .int .i64 o] w fun r w' => r = .returned (.bool (!held L p o)) ∧ Chg w w' A m m (undL L p o) := by
  have q1 := withheld_any A m L p o w h.sb h.mp (by unfold maxLen; omega)
  have q2 : Hid (∀ W, Below w.heap.size w W → Calls Try.prog 44 #[.pointer (some ⟨A, 0, none⟩), .string (mk p)] W fun r w' => r = .returned (.tuple #[]) ∧ Chg w w' A m m (del L p)) := fun W hW => by
    refine (drop_any A m L p W (h.below hW) (by unfold maxLen; omega)).mono ?_
    rintro r w' ⟨rfl, hc⟩
    exact ⟨rfl, Chg.after hW hc⟩
  have H := hide' h
  clear h
  unfold undL
  cases hh : held L p o with
  | true =>
    rw [hh] at q1
    rw [if_pos rfl]
    clear hh
    go_enter Try.func20, Try.ntmps20
    go_wp2_with fail
    refine (orEmpty_any A _).mono ?_
    rintro r w0 ⟨rfl, rfl⟩
    go_wp2_with fail
    refine q1.mono ?_
    rintro r w1 ⟨rfl, hb1⟩
    go_wp2
    go_ret
    exact ⟨rfl, Chg.same H.out hb1⟩
  | false =>
    rw [hh] at q1
    rw [if_neg (by simp)]
    clear hh
    go_enter Try.func20, Try.ntmps20
    go_wp2_with fail
    refine (orEmpty_any A _).mono ?_
    rintro r w0 ⟨rfl, rfl⟩
    go_wp2_with fail
    refine q1.mono ?_
    rintro r w1 ⟨rfl, hb1⟩
    go_wp2_with fail
    refine (q2.out _ hb1).mono ?_
    rintro r w2 ⟨rfl, hc⟩
    go_wp2
    go_ret
    exact ⟨rfl, hc⟩
end Go.Proofs.Ytillechackcbpaa
