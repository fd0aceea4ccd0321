/- The walk of vars.Special at a name of two bytes. -/
import Derived.Test.YtillechackcbpaaZSp
namespace Go.Proofs.Ytillechackcbpaa.Sp
open Go.RowKit Go.Shelf Go.Maps Go.Proofs.Ytillechackcbpaa.Pa
set_option maxRecDepth 100000 in
set_option maxHeartbeats 4000000 in
theorem sp_x (A : Nat) (m : Option Nat) (L : Vs) (c d : UInt8) (w : World) (h : St w A m L) (hc : isAuto c = true) (hf : (fnd L [c]).isSome = true) (ho : (getV L [c]).origin = 7) (hd : d ≠ 68) (hd' : d ≠ 70) :
    Calls Try.prog 18 #[.pointer (some ⟨A, 0, none⟩), .string (mk [c, d])] w fun r w' => r = .returned (.tuple #[.string ⟨#[]⟩, .bool false]) ∧ Below w.heap.size w w' := by
  have q := fun W => contains_auto c W
  rw [hc] at q
  have q2 : Hid (∀ W, Below w.heap.size w W → Calls Try.prog 31 #[.pointer (some ⟨A, 0, none⟩), .string ⟨#[c]⟩] W fun r w' => r = .returned (.tuple #[vV (getV L [c]), .bool (fnd L [c]).isSome]) ∧ Below W.heap.size W w') := fun W hW => find_any A m L [c] W (h.below hW).sb (h.below hW).mp (by unfold maxLen; simp)
  obtain ⟨s, hs⟩ : ∃ s, s = mk [c, d] := ⟨_, rfl⟩
  have h1 : s.size = 2 := by rw [hs]; rfl
  have h2 : s.extract 0 1 = ⟨#[c]⟩ := by rw [hs, ext_take, tl_mk]; rfl
  have h3 : ∀ hh : 1 < s.size, s[1] = d := by subst hs; intro _; rfl
  rw [← hs]
  clear hs h
  rw [hf] at q2
  generalize getV L [c] = g at q2 ho
  obtain ⟨xn, xv, xf, xo, xe⟩ := g
  dsimp only [vV] at q2 ho
  generalize mk xn = xn' at q2
  generalize mk xv = xv' at q2
  have ho' : (xo == 7) = true := by rw [show xo = 7 from ho]; rfl
  clear ho
  have k68 := beq_no d 68 68 rfl hd
  have k70 := beq_no d 70 70 rfl hd'
  go_enter Try.func18, Try.ntmps18
  go_wp2_with fail
  refine (q _).mono ?_
  rintro e w1 ⟨rfl, rfl⟩
  clear q
  go_wp2
  have hBz : Below w1.heap.size w1 (w1.alloc (.cells #[.string ⟨#[]⟩, .string ⟨#[]⟩, .int .i64 0, .int .i64 0, .int .i64 0] 36)).drew := (below_alloc (Below.refl _ _) (Nat.le_refl _) _).drew
  have hz0 : Bx (w1.alloc (.cells #[.string ⟨#[]⟩, .string ⟨#[]⟩, .int .i64 0, .int .i64 0, .int .i64 0] 36)).drew w1.heap.size ⟨#[]⟩ ⟨#[]⟩ 0 0 0 := heap_alloc_new w1 _
  refine wp_region_class (C := fun _ => True) (by kernel_rfl) ?_
  (refine wpAnyC_take (i := 0) (v := ?_) trivial rfl (by kernel_rfl) (by kernel_rfl) (by kernel_rfl) (fun _ _ _ h => h) (Or.inl ⟨by kernel_rfl, ?_⟩) ?_; rotate_left; (intro w hc; clear hc; go_simp; try with_reducible rfl))
  (refine wpAnyC_take (i := 4) (v := ?_) trivial rfl (by kernel_rfl) (by kernel_rfl) (by kernel_rfl) (fun _ _ _ h => h) (Or.inl ⟨by kernel_rfl, ?_⟩) ?_; rotate_left; (intro w hc; clear hc; go_simp; try with_reducible rfl))
  (refine wpAnyC_take (i := 5) (v := ?_) trivial rfl (by kernel_rfl) (by kernel_rfl) (by kernel_rfl) (fun _ _ _ h => h) (Or.inl ⟨by kernel_rfl, ?_⟩) ?_; rotate_left; (intro w hc; clear hc; go_simp; try with_reducible rfl))
  go_simp
  refine wpAnyC_two (i := 1) (j := 10) (by kernel_rfl) (wpOp_wanted rfl (by rfl) ?_) (wpOp_wanted rfl (by rfl) ?_)
  · go_simp
    refine (orEmpty_any A _).mono ?_
    rintro r w0 ⟨rfl, rfl⟩
    dsimp only
    (refine wpAnyC_take (i := 2) (v := ?_) trivial rfl (by kernel_rfl) (by kernel_rfl) (by kernel_rfl) (fun _ _ _ h => h) (Or.inl ⟨by kernel_rfl, ?_⟩) ?_; rotate_left; (intro w hc; clear hc; go_simp; try with_reducible rfl))
    (refine wpAnyC_take (i := 3) (v := ?_) trivial rfl (by kernel_rfl) (by kernel_rfl) (by kernel_rfl) (fun _ _ _ h => h) (Or.inl ⟨by kernel_rfl, ?_⟩) ?_; rotate_left; (intro w hc; clear hc; go_simp; try with_reducible rfl))
    go_simp
    refine wpAnyC_two (i := 6) (j := 10) (by kernel_rfl) (wpOp_wanted rfl (by rfl) ?_) (wpOp_wanted rfl (by rfl) ?_)
    · go_simp
      have hd0 : Below w1.heap.size w1 w1.drew := (Below.refl _ _).drew
      refine (q2.out _ hd0).mono ?_
      rintro r w2 ⟨rfl, hb2⟩
      dsimp only
      have hB2 : Below w1.heap.size w1 w2 := hd0.trans (hb2.mono hd0.size)
      have HX : Hid (Bx (w2.alloc (.cells #[.string xn', .string xv', .int .i64 xf, .int .i64 xo, .int .i64 xe] 36)) w2.heap.size xn' xv' xf xo xe) := heap_alloc_new w2 _
      have HB : Hid (Below w1.heap.size w1 (w2.alloc (.cells #[.string xn', .string xv', .int .i64 xf, .int .i64 xo, .int .i64 xe] 36))) := below_alloc hB2 (Nat.le_refl _) _
      clear hb2 hB2 hd0
      (refine wpAnyC_take (i := 7) (v := ?_) trivial rfl (by kernel_rfl) (by kernel_rfl) (by kernel_rfl) (fun _ _ _ h => h) (Or.inl ⟨by kernel_rfl, ?_⟩) ?_; rotate_left; (intro w hc; clear hc; go_simp; try with_reducible rfl))
      (refine wpAnyC_take (i := 8) (v := ?_) trivial rfl (by kernel_rfl) (by kernel_rfl) (by kernel_rfl) (fun _ _ _ h => h) (Or.inl ⟨by kernel_rfl, ?_⟩) ?_; rotate_left; (intro w hc; clear hc; go_simp; try with_reducible rfl))
      (refine wpAnyC_take (i := 9) (v := ?_) trivial rfl (by kernel_rfl) (by kernel_rfl) (by kernel_rfl) (fun _ _ _ h => h) (Or.inl ⟨by kernel_rfl, ?_⟩) ?_; rotate_left; (intro w hc; clear hc; go_simp; try with_reducible rfl))
      go_simp
      refine wpAnyC_one (i := 10) (by kernel_rfl) (wpOp_wanted rfl (by rfl) ?_)
      go_simp
      refine wpAnyC_one (i := 11) (by kernel_rfl) (wpOp_wanted rfl (by rfl) ?_)
      go_simp
      refine wpAnyC_one (i := 12) (by kernel_rfl) (wpOp_wanted rfl (by rfl) ?_)
      go_simp
      refine wpAnyC_done (by kernel_rfl) ?_ _
      generalize w2.alloc (.cells #[.string xn', .string xv', .int .i64 xf, .int .i64 xo, .int .i64 xe] 36) = w3 at HX HB ⊢
      have k1 := HX.out.c1
      have k3 := HX.out.c3
      clear HX
      go_wp2
      go_ret2
      exact ⟨rfl, HB.out⟩
    · go_simp
      refine wpAnyC_one (i := 6) (by kernel_rfl) (wpOp_wanted rfl (by rfl) ?_)
      go_simp
      refine (q2.out _ hBz).mono ?_
      rintro r w2 ⟨rfl, hb2⟩
      dsimp only
      have hz : Bx w2 w1.heap.size ⟨#[]⟩ ⟨#[]⟩ 0 0 0 := Bx.below hz0 hb2
      have hB2 : Below w1.heap.size w1 w2 := hBz.trans (hb2.mono hBz.size)
      have e0 := hz.c0
      have z0 := hz.fz 0
      have e1 := hz.c1
      have z1 := hz.fz 1
      have e2 := hz.c2
      have z2 := hz.fz 2
      have e3 := hz.c3
      have z3 := hz.fz 3
      have e4 := hz.c4
      have z4 := hz.fz 4
      obtain ⟨w3, hw3⟩ : ∃ w3, w3 = ((((w2.setCell ⟨w1.heap.size, 0, none⟩ (.string xn')).setCell ⟨w1.heap.size, 1, none⟩ (.string xv')).setCell ⟨w1.heap.size, 2, none⟩ (.int .i64 xf)).setCell ⟨w1.heap.size, 3, none⟩ (.int .i64 xo)).setCell ⟨w1.heap.size, 4, none⟩ (.int .i64 xe) := ⟨_, rfl⟩
      have HX : Hid (Bx w3 w1.heap.size xn' xv' xf xo xe) := by rw [hw3]; exact hz.set xn' xv' xf xo xe
      have HB : Hid (Below w1.heap.size w1 w3) := by rw [hw3]; exact put5_below hB2 (Nat.le_refl _) xn' xv' xf xo xe
      have HW := hide' hw3
      clear hw3
      clear hb2 hz hB2
      (refine wpAnyC_take (i := 7) (v := ?_) trivial rfl (by kernel_rfl) (by kernel_rfl) (by kernel_rfl) (fun _ _ _ h => h) (Or.inl ⟨by kernel_rfl, ?_⟩) ?_; rotate_left; (intro w hc; clear hc; go_simp; try with_reducible rfl))
      (refine wpAnyC_take (i := 8) (v := ?_) trivial rfl (by kernel_rfl) (by kernel_rfl) (by kernel_rfl) (fun _ _ _ h => h) (Or.inl ⟨by kernel_rfl, ?_⟩) ?_; rotate_left; (intro w hc; clear hc; go_simp; try with_reducible rfl))
      (refine wpAnyC_take (i := 9) (v := ?_) trivial rfl (by kernel_rfl) (by kernel_rfl) (by kernel_rfl) (fun _ _ _ h => h) (Or.inl ⟨by kernel_rfl, ?_⟩) ?_; rotate_left; (intro w hc; clear hc; go_simp; try with_reducible rfl))
      go_simp
      refine wpAnyC_one (i := 11) (by kernel_rfl) (wpOp_wanted rfl (by rfl) ?_)
      go_simp
      refine wpAnyC_one (i := 12) (by kernel_rfl) (wpOp_wanted rfl (by rfl) ?_)
      go_simp
      refine wpAnyC_done (by kernel_rfl) ?_ _
      clear e0 e1 e2 e3 e4 z0 z1 z2 z3 z4
      rw [← HW.out]
      clear HW
      have k1 := HX.out.c1
      have k3 := HX.out.c3
      clear HX
      go_wp2
      go_ret2
      exact ⟨rfl, HB.out⟩
  · go_simp
    refine wpAnyC_one (i := 1) (by kernel_rfl) (wpOp_wanted rfl (by rfl) ?_)
    go_simp
    refine (orEmpty_any A _).mono ?_
    rintro r w0 ⟨rfl, rfl⟩
    dsimp only
    (refine wpAnyC_take (i := 2) (v := ?_) trivial rfl (by kernel_rfl) (by kernel_rfl) (by kernel_rfl) (fun _ _ _ h => h) (Or.inl ⟨by kernel_rfl, ?_⟩) ?_; rotate_left; (intro w hc; clear hc; go_simp; try with_reducible rfl))
    (refine wpAnyC_take (i := 3) (v := ?_) trivial rfl (by kernel_rfl) (by kernel_rfl) (by kernel_rfl) (fun _ _ _ h => h) (Or.inl ⟨by kernel_rfl, ?_⟩) ?_; rotate_left; (intro w hc; clear hc; go_simp; try with_reducible rfl))
    go_simp
    refine wpAnyC_one (i := 6) (by kernel_rfl) (wpOp_wanted rfl (by rfl) ?_)
    go_simp
    refine (q2.out _ hBz).mono ?_
    rintro r w2 ⟨rfl, hb2⟩
    dsimp only
    have hz : Bx w2 w1.heap.size ⟨#[]⟩ ⟨#[]⟩ 0 0 0 := Bx.below hz0 hb2
    have hB2 : Below w1.heap.size w1 w2 := hBz.trans (hb2.mono hBz.size)
    have e0 := hz.c0
    have z0 := hz.fz 0
    have e1 := hz.c1
    have z1 := hz.fz 1
    have e2 := hz.c2
    have z2 := hz.fz 2
    have e3 := hz.c3
    have z3 := hz.fz 3
    have e4 := hz.c4
    have z4 := hz.fz 4
    obtain ⟨w3, hw3⟩ : ∃ w3, w3 = ((((w2.setCell ⟨w1.heap.size, 0, none⟩ (.string xn')).setCell ⟨w1.heap.size, 1, none⟩ (.string xv')).setCell ⟨w1.heap.size, 2, none⟩ (.int .i64 xf)).setCell ⟨w1.heap.size, 3, none⟩ (.int .i64 xo)).setCell ⟨w1.heap.size, 4, none⟩ (.int .i64 xe) := ⟨_, rfl⟩
    have HX : Hid (Bx w3 w1.heap.size xn' xv' xf xo xe) := by rw [hw3]; exact hz.set xn' xv' xf xo xe
    have HB : Hid (Below w1.heap.size w1 w3) := by rw [hw3]; exact put5_below hB2 (Nat.le_refl _) xn' xv' xf xo xe
    have HW := hide' hw3
    clear hw3
    clear hb2 hz hB2
    (refine wpAnyC_take (i := 7) (v := ?_) trivial rfl (by kernel_rfl) (by kernel_rfl) (by kernel_rfl) (fun _ _ _ h => h) (Or.inl ⟨by kernel_rfl, ?_⟩) ?_; rotate_left; (intro w hc; clear hc; go_simp; try with_reducible rfl))
    (refine wpAnyC_take (i := 8) (v := ?_) trivial rfl (by kernel_rfl) (by kernel_rfl) (by kernel_rfl) (fun _ _ _ h => h) (Or.inl ⟨by kernel_rfl, ?_⟩) ?_; rotate_left; (intro w hc; clear hc; go_simp; try with_reducible rfl))
    (refine wpAnyC_take (i := 9) (v := ?_) trivial rfl (by kernel_rfl) (by kernel_rfl) (by kernel_rfl) (fun _ _ _ h => h) (Or.inl ⟨by kernel_rfl, ?_⟩) ?_; rotate_left; (intro w hc; clear hc; go_simp; try with_reducible rfl))
    go_simp
    refine wpAnyC_one (i := 11) (by kernel_rfl) (wpOp_wanted rfl (by rfl) ?_)
    go_simp
    refine wpAnyC_one (i := 12) (by kernel_rfl) (wpOp_wanted rfl (by rfl) ?_)
    go_simp
    refine wpAnyC_done (by kernel_rfl) ?_ _
    clear e0 e1 e2 e3 e4 z0 z1 z2 z3 z4
    rw [← HW.out]
    clear HW
    have k1 := HX.out.c1
    have k3 := HX.out.c3
    clear HX
    go_wp2
    go_ret2
    exact ⟨rfl, HB.out⟩
end Go.Proofs.Ytillechackcbpaa.Sp
