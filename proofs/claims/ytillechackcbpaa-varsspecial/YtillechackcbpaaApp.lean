/- The contracts of Append and Export. -/
import Derived.Test.YtillechackcbpaaSet
namespace Go.Proofs.Ytillechackcbpaa
open Go.RowKit Go.Maps

/-- Append: the value, the flavour -/
def appV (L : Vs) (p v : Bs) : Bs := if (fnd L p).isSome && !(getV L p).value.isEmpty then (getV L p).value ++ 32 :: v else v
def appF (L : Vs) (p : Bs) : Int := if (fnd L p).isSome then (getV L p).flav else 1
set_option maxRecDepth 100000 in
set_option maxHeartbeats 1000000 in
theorem app_any (A : Nat) (m : Option Nat) (L : Vs) (p v : Bs) (o : Int) (w : World) (h : St w A m L) (hp : p.length ≤ 1000000) (hv : (getV L p).value.length + 1 + v.length ≤ 1000000) :
    Calls Try.prog 21 #[.pointer (some ⟨A, 0, none⟩), .string (mk p), .string (mk v), .int .i64 o] w fun r w' => r = .returned (.bool (setOk L p o)) ∧ ∃ m', Chg w w' A m m' (setL L p (appV L p v) (appF L p) o) := by
  have q2 : Calls Try.prog 31 #[.pointer (some ⟨A, 0, none⟩), .string (mk p)] w fun r w' => r = .returned (.tuple #[vV (getV L p), .bool (fnd L p).isSome]) ∧ Below w.heap.size w w' := find_any A m L p w h.sb h.mp (by unfold maxLen; omega)
  have q3 : Hid (∀ u f W, Below w.heap.size w W → u.length ≤ 1000000 → Calls Try.prog 16 #[.pointer (some ⟨A, 0, none⟩), .string (mk p), .string (mk u), .int .i64 f, .int .i64 o] W fun r w' => r = .returned (.bool (setOk L p o)) ∧ ∃ m', Chg w w' A m m' (setL L p u f o)) := fun u f W hW hu => by
    refine (set_any A m L p u f o W (h.below hW) hp hu).mono ?_
    rintro r w' ⟨rfl, m', hc⟩
    exact ⟨rfl, m', Chg.after hW hc⟩
  clear h
  unfold appV appF
  generalize (fnd L p).isSome = fb at q2 ⊢
  generalize getV L p = g at q2 hv ⊢
  obtain ⟨xn, xv, xf, xo, xe⟩ := g
  dsimp only [vV] at q2 hv ⊢
  generalize setOk L p o = so at q3 ⊢
  cases fb with
  | false =>
    simp only [Bool.false_and, Bool.false_eq_true, if_false]
    go_enter Try.func21, Try.ntmps21
    go_wp2_with fail
    refine (orEmpty_any A _).mono ?_
    rintro r w0 ⟨rfl, rfl⟩
    go_wp2_with fail
    refine q2.mono ?_
    rintro r w2 ⟨rfl, hb2⟩
    have Q := q3.out v 1 (w2.alloc (.cells #[.string (mk xn), .string (mk xv), .int .i64 xf, .int .i64 xo, .int .i64 xe] 36)) (below_alloc hb2 (Nat.le_refl _) _) (by omega)
    clear q2 hb2
    go_wp2_with fail
    refine Q.mono ?_
    rintro r w3 ⟨rfl, hc⟩
    go_wp2
    go_ret
    exact ⟨rfl, hc⟩
  | true =>
    simp only [Bool.true_and, if_true]
    cases xv with
    | nil =>
      simp only [List.isEmpty_nil, Bool.not_true, Bool.false_eq_true, if_false]
      go_enter Try.func21, Try.ntmps21
      go_wp2_with fail
      refine (orEmpty_any A _).mono ?_
      rintro r w0 ⟨rfl, rfl⟩
      go_wp2_with fail
      refine q2.mono ?_
      rintro r w2 ⟨rfl, hb2⟩
      have Q := q3.out v xf (w2.alloc (.cells #[.string (mk xn), .string (mk []), .int .i64 xf, .int .i64 xo, .int .i64 xe] 36)) (below_alloc hb2 (Nat.le_refl _) _) (by simp at hv; omega)
      clear q2 hb2
      go_wp2_with fail
      refine Q.mono ?_
      rintro r w3 ⟨rfl, hc⟩
      go_wp2
      go_ret
      exact ⟨rfl, hc⟩
    | cons c xv =>
      simp only [List.isEmpty_cons, Bool.not_false, if_true]
      have hv0 := hv
      rw [List.length_cons] at hv0
      have hv1 : ¬ 9223372036854775807 < xv.length + 1 + 1 := by omega
      have hv2 : ¬ 9223372036854775807 < xv.length + 1 + 1 + List.length v := by omega
      have hne : (mk (c :: xv)).data.toList.isEmpty = false := by simp
      go_enter Try.func21, Try.ntmps21
      go_wp2_with fail
      refine (orEmpty_any A _).mono ?_
      rintro r w0 ⟨rfl, rfl⟩
      go_wp2_with fail
      refine q2.mono ?_
      rintro r w2 ⟨rfl, hb2⟩
      have Q := q3.out (c :: xv ++ 32 :: v) xf (w2.alloc (.cells #[.string (mk xn), .string (mk (c :: xv)), .int .i64 xf, .int .i64 xo, .int .i64 xe] 36)) (below_alloc hb2 (Nat.le_refl _) _) (by simp at hv ⊢; omega)
      rw [show mk (c :: xv ++ 32 :: v) = mk (c :: xv) ++ ⟨#[32]⟩ ++ mk v from tl_inj _ _ (by simp [tl])] at Q
      clear q2 hb2 hv hv0
      go_wp2_with fail
      refine Q.mono ?_
      rintro r w3 ⟨rfl, hc⟩
      go_wp2
      go_ret
      exact ⟨rfl, hc⟩
/-- Export -/
def expL (L : Vs) (p : Bs) (how : Int) : Vs := if how < 0 ∨ 2 < how then L else putIf L (if (fnd L p).isSome then { getV L p with exp := how } else ⟨p, [], 1, 3, how⟩)
theorem exp_out (A : Nat) (m : Option Nat) (L : Vs) (p : Bs) (how : Int) (w : World) (h : St w A m L) (hh : how < 0 ∨ 2 < how) :
    Calls Try.prog 29 #[.pointer (some ⟨A, 0, none⟩), .string (mk p), .int .i64 how] w fun r w' => r = .returned (.tuple #[]) ∧ ∃ m', Chg w w' A m m' (expL L p how) := by
  unfold expL
  rw [if_pos hh]
  have H := hide' h
  clear h
  by_cases h0 : how < 0
  · go_enter Try.func29, Try.ntmps29
    go_wp2
    refine bodyPost_ret (by simp [results, Try.results29, go_sem]; rfl) rfl ?_
    exact ⟨rfl, m, Chg.same H.out (Below.refl _ _)⟩
  · have h1 : 2 < how := by omega
    go_enter Try.func29, Try.ntmps29
    go_wp2
    refine bodyPost_ret (by simp [results, Try.results29, go_sem]; rfl) rfl ?_
    exact ⟨rfl, m, Chg.same H.out (Below.refl _ _)⟩
set_option maxRecDepth 100000 in
set_option maxHeartbeats 1000000 in
theorem exp_in (A : Nat) (m : Option Nat) (L : Vs) (p : Bs) (how : Int) (w : World) (h : St w A m L) (hp : p.length ≤ 1000000) (h0 : 0 ≤ how) (h2 : how ≤ 2) :
    Calls Try.prog 29 #[.pointer (some ⟨A, 0, none⟩), .string (mk p), .int .i64 how] w fun r w' => r = .returned (.tuple #[]) ∧ ∃ m', Chg w w' A m m' (expL L p how) := by
  have hg : (getV L p).name.length ≤ 1000000 ∧ (getV L p).value.length ≤ 1000000 := by
    unfold getV
    cases hf : fnd L p with
    | none => exact ⟨Nat.zero_le _, Nat.zero_le _⟩
    | some e =>
      have hm := fnd_mem hf
      have h1 := h.len _ hm
      have h2 := h.nm _ hm
      simp only at h1 h2
      simp only [Option.getD]
      rw [h2]
      exact h1
  unfold expL
  rw [if_neg (by omega)]
  have q2 : Calls Try.prog 31 #[.pointer (some ⟨A, 0, none⟩), .string (mk p)] w fun r w' => r = .returned (.tuple #[vV (getV L p), .bool (fnd L p).isSome]) ∧ Below w.heap.size w w' := find_any A m L p w h.sb h.mp (by unfold maxLen; omega)
  have q3 : Hid (∀ W, Calls Try.prog 26 #[vV ⟨p, [], 1, 3, 0⟩] W fun r w' => r = .returned (vV ⟨p, [], 1, 3, 0⟩) ∧ Below W.heap.size W w') := fun W => own_any ⟨p, [], 1, 3, 0⟩ W (by simp only; omega) (by simp)
  have q4 : Hid (∀ (x : Vr) W, Below w.heap.size w W → x.name.length ≤ 1000000 → x.value.length ≤ 1000000 → Calls Try.prog 34 #[.pointer (some ⟨A, 0, none⟩), vV x] W fun r w' => (∃ b, r = .returned (.bool b)) ∧ ∃ m', Chg w w' A m m' (putIf L x)) := fun x W hW h1 h2 => by
    refine (put_any A m L x W (h.below hW) h1 h2).mono ?_
    rintro r w' ⟨rfl, m', hc⟩
    exact ⟨⟨_, rfl⟩, m', Chg.after hW hc⟩
  clear h
  have k0 : ¬ how < 0 := by omega
  have k2 : ¬ 2 < how := by omega
  generalize (fnd L p).isSome = fb at q2 ⊢
  generalize getV L p = g at q2 hg ⊢
  obtain ⟨xn, xv, xf, xo, xe⟩ := g
  dsimp only [vV] at q2 q3 hg ⊢
  cases fb with
  | true =>
    rw [if_pos rfl]
    have q5 : Hid (∀ W, Below w.heap.size w W → _) := fun W hW => q4.out ⟨xn, xv, xf, xo, how⟩ W hW hg.1 hg.2
    dsimp only [vV] at q5
    clear q4 q3
    go_enter Try.func29, Try.ntmps29
    go_wp2_with fail
    refine (orEmpty_any A _).mono ?_
    rintro r w0 ⟨rfl, rfl⟩
    go_wp2_with fail
    refine q2.mono ?_
    rintro r w2 ⟨rfl, hb2⟩
    have hC : Bx (w2.alloc (.cells #[.string (mk xn), .string (mk xv), .int .i64 xf, .int .i64 xo, .int .i64 how] 36)).drew w2.heap.size (mk xn) (mk xv) xf xo how := heap_alloc_new w2 _
    have HB : Hid (Below w0.heap.size w0 (w2.alloc (.cells #[.string (mk xn), .string (mk xv), .int .i64 xf, .int .i64 xo, .int .i64 how] 36)).drew) := (below_alloc hb2 (Nat.le_refl _) _).drew
    go_wp2
    refine wp_region_classX [4] (C := fun W => Bx W w2.heap.size (mk xn) (mk xv) xf xo how) (by kernel_rfl) ?_
    (refine wpAnyX_take (i := 0) (v := ?_) hC rfl (by kernel_rfl) (by kernel_rfl) (by kernel_rfl) (by kernel_rfl) (fun _ _ _ h => h) (Or.inl ⟨by kernel_rfl, ?_⟩) ?_; rotate_left; (intro w hc; have k0 := hc.c0; have k1 := hc.c1; have k2 := hc.c2; have k3 := hc.c3; have k4 := hc.c4; clear hc; go_simp; try with_reducible rfl))
    (refine wpAnyX_take (i := 1) (v := ?_) hC rfl (by kernel_rfl) (by kernel_rfl) (by kernel_rfl) (by kernel_rfl) (fun _ _ _ h => h) (Or.inl ⟨by kernel_rfl, ?_⟩) ?_; rotate_left; (intro w hc; have k0 := hc.c0; have k1 := hc.c1; have k2 := hc.c2; have k3 := hc.c3; have k4 := hc.c4; clear hc; go_simp; try with_reducible rfl))
    (refine wpAnyX_take (i := 2) (v := ?_) hC rfl (by kernel_rfl) (by kernel_rfl) (by kernel_rfl) (by kernel_rfl) (fun _ _ _ h => h) (Or.inl ⟨by kernel_rfl, ?_⟩) ?_; rotate_left; (intro w hc; have k0 := hc.c0; have k1 := hc.c1; have k2 := hc.c2; have k3 := hc.c3; have k4 := hc.c4; clear hc; go_simp; try with_reducible rfl))
    (refine wpAnyX_take (i := 3) (v := ?_) hC rfl (by kernel_rfl) (by kernel_rfl) (by kernel_rfl) (by kernel_rfl) (fun _ _ _ h => h) (Or.inl ⟨by kernel_rfl, ?_⟩) ?_; rotate_left; (intro w hc; have k0 := hc.c0; have k1 := hc.c1; have k2 := hc.c2; have k3 := hc.c3; have k4 := hc.c4; clear hc; go_simp; try with_reducible rfl))
    go_simp
    refine wpAnyX_one (i := 4) (by kernel_rfl) (wpOp_wanted rfl (by rfl) ?_)
    go_simp
    refine (q5.out _ HB.out).mono ?_
    rintro r w4 ⟨⟨rb, rfl⟩, m', hch⟩
    dsimp only
    go_simp
    refine wpAnyX_done (by kernel_rfl) ?_ _
    go_wp2
    go_end0
    exact ⟨rfl, m', hch⟩
  | false =>
    rw [if_neg (by simp)]
    have q5 : Hid (∀ W, Below w.heap.size w W → _) := fun W hW => q4.out ⟨p, [], 1, 3, how⟩ W hW hp (by simp)
    dsimp only [vV] at q5
    clear q4
    go_enter Try.func29, Try.ntmps29
    go_wp2_with fail
    refine (orEmpty_any A _).mono ?_
    rintro r w0 ⟨rfl, rfl⟩
    go_wp2_with fail
    refine q2.mono ?_
    rintro r w2 ⟨rfl, hb2⟩
    go_wp2_with fail
    refine (q3.out _).mono ?_
    rintro r w3 ⟨rfl, hb3⟩
    have hz3 : Bx w3 w2.heap.size (mk xn) (mk xv) xf xo xe := Bx.below (heap_alloc_new w2 _) hb3
    have hB3 : Below w0.heap.size w0 w3 := (below_alloc hb2 (Nat.le_refl _) _).trans (hb3.mono (below_alloc hb2 (Nat.le_refl _) _).size)
    have hs2 := hb2.size
    have e0 := hz3.c0
    have e1 := hz3.c1
    have e2 := hz3.c2
    have e3 := hz3.c3
    have e4 := hz3.c4
    have z0 := hz3.fz 0
    have z1 := hz3.fz 1
    have z2 := hz3.fz 2
    have z3 := hz3.fz 3
    have z4 := hz3.fz 4
    clear hb2 hb3 q3 q2
    go_wp2
    have hF := set_row (hz3.set (mk p) (mk []) 1 3 0) 4 (.int .i64 how)
    have hbF := (put5_below hB3 hs2 (mk p) (mk []) 1 3 0).setCell (p := ⟨w2.heap.size, 4, none⟩) hs2 (.int .i64 how)
    dsimp only [put5] at hF hbF
    generalize (((((w3.setCell ⟨w2.heap.size, 0, none⟩ (.string (mk p))).setCell ⟨w2.heap.size, 1, none⟩ (.string (mk []))).setCell ⟨w2.heap.size, 2, none⟩ (.int .i64 1)).setCell ⟨w2.heap.size, 3, none⟩ (.int .i64 3)).setCell ⟨w2.heap.size, 4, none⟩ (.int .i64 0)).setCell ⟨w2.heap.size, 4, none⟩ (.int .i64 how) = W' at hF hbF ⊢
    clear e0 e1 e2 e3 e4 z0 z1 z2 z3 z4 hz3
    have hC : Bx W'.drew w2.heap.size (mk p) (mk []) 1 3 how := hF
    have HB : Hid (Below w0.heap.size w0 W'.drew) := hbF.drew
    refine wp_region_classX [4] (C := fun W => Bx W w2.heap.size (mk p) (mk []) 1 3 how) (by kernel_rfl) ?_
    (refine wpAnyX_take (i := 0) (v := ?_) hC rfl (by kernel_rfl) (by kernel_rfl) (by kernel_rfl) (by kernel_rfl) (fun _ _ _ h => h) (Or.inl ⟨by kernel_rfl, ?_⟩) ?_; rotate_left; (intro w hc; have k0 := hc.c0; have k1 := hc.c1; have k2 := hc.c2; have k3 := hc.c3; have k4 := hc.c4; clear hc; go_simp; try with_reducible rfl))
    (refine wpAnyX_take (i := 1) (v := ?_) hC rfl (by kernel_rfl) (by kernel_rfl) (by kernel_rfl) (by kernel_rfl) (fun _ _ _ h => h) (Or.inl ⟨by kernel_rfl, ?_⟩) ?_; rotate_left; (intro w hc; have k0 := hc.c0; have k1 := hc.c1; have k2 := hc.c2; have k3 := hc.c3; have k4 := hc.c4; clear hc; go_simp; try with_reducible rfl))
    (refine wpAnyX_take (i := 2) (v := ?_) hC rfl (by kernel_rfl) (by kernel_rfl) (by kernel_rfl) (by kernel_rfl) (fun _ _ _ h => h) (Or.inl ⟨by kernel_rfl, ?_⟩) ?_; rotate_left; (intro w hc; have k0 := hc.c0; have k1 := hc.c1; have k2 := hc.c2; have k3 := hc.c3; have k4 := hc.c4; clear hc; go_simp; try with_reducible rfl))
    (refine wpAnyX_take (i := 3) (v := ?_) hC rfl (by kernel_rfl) (by kernel_rfl) (by kernel_rfl) (by kernel_rfl) (fun _ _ _ h => h) (Or.inl ⟨by kernel_rfl, ?_⟩) ?_; rotate_left; (intro w hc; have k0 := hc.c0; have k1 := hc.c1; have k2 := hc.c2; have k3 := hc.c3; have k4 := hc.c4; clear hc; go_simp; try with_reducible rfl))
    go_simp
    refine wpAnyX_one (i := 4) (by kernel_rfl) (wpOp_wanted rfl (by rfl) ?_)
    go_simp
    refine (q5.out _ HB.out).mono ?_
    rintro r w4 ⟨⟨rb, rfl⟩, m', hch⟩
    dsimp only
    go_simp
    refine wpAnyX_done (by kernel_rfl) ?_ _
    go_wp2
    go_end0
    exact ⟨rfl, m', hch⟩
theorem exp_any (A : Nat) (m : Option Nat) (L : Vs) (p : Bs) (how : Int) (w : World) (h : St w A m L) (hp : p.length ≤ 1000000) :
    Calls Try.prog 29 #[.pointer (some ⟨A, 0, none⟩), .string (mk p), .int .i64 how] w fun r w' => r = .returned (.tuple #[]) ∧ ∃ m', Chg w w' A m m' (expL L p how) := by
  by_cases hh : how < 0 ∨ 2 < how
  · exact exp_out A m L p how w h hh
  · exact exp_in A m L p how w h hp (by omega) (by omega)
end Go.Proofs.Ytillechackcbpaa
