/- The contract of refs.inside. -/
import Derived.Test.YtaemmgllhmjceaaDoorPt
import Derived.Deep.Cut
namespace Go.Proofs.YtaemmgllhmjceaaDoor
open Go.RowKit

theorem ia_le (l : Bs) : ia l ≤ l.length := by
  induction l with
  | nil => rw [ia_nil]; simp
  | cons b r ih =>
    cases hb : bl b with
    | true => rw [ia_blank b r hb]; simp; omega
    | false => rw [ia_cons b r hb]; simp only [List.length_cons]; split <;> omega
theorem ia_ge (l : Bs) : -1 ≤ ia l := Lib.indexAny_ge _ _
/-- a function in a block of its own -/
def Bx3 (w : World) (b : Nat) (f : Fn) : Prop := w.heap[b]? = some (.cells #[.string (mk f.1), .int .i64 f.2.1, .int .i64 f.2.2] 58 (0, 0))
structure InC (F : Nat) (mo : Int) (w : World) : Prop where
  most : w.cell? ⟨F, 2, none⟩ = some (.int .i64 mo)
theorem drop_len (l : Bs) : (l.dropWhile bl).length ≤ l.length := by
  induction l with
  | nil => simp
  | cons b r ih => rw [List.dropWhile_cons]; split <;> simp <;> omega
set_option maxRecDepth 100000 in
set_option maxHeartbeats 4000000 in
theorem inside_any (s : ByteArray) (hs : s.size ≤ 100000) (w : World) (hF : FnsAt w 0) :
    Calls Tryd.prog 24 #[.string s] w fun e w' => ∃ v, e = .returned v ∧ PtAt w' w.heap.size v (ins (tl s)) ∧ Below w.heap.size w w' := by
  have hx := bx4_new w
  have hB : Below w.heap.size w (w.alloc (.cells #[.int .i64 0, .string ⟨#[]⟩, .string ⟨#[]⟩, .slice none 0 0] 30)) := (Below.refl _ w).alloc (Nat.le_refl _) _
  generalize hW : w.alloc (.cells #[.int .i64 0, .string ⟨#[]⟩, .string ⟨#[]⟩, .slice none 0 0] 30) = W at hx hB
  have HW := hide' hW
  clear hW
  have kI := fun w => iany_any s (by omega) w
  have kV := fun w => variable_any s (by omega) w
  have hle := ia_le (tl s)
  have hge := ia_ge (tl s)
  rw [tl_len] at hle
  by_cases h0 : ia (tl s) < 0
  · have HP : Hid (ins (tl s) = vr (tl s)) := by
      show _ = _
      unfold ins
      rw [if_pos h0]
    generalize ia (tl s) = q at kI h0 hle hge
    clear hF
    go_enter Tryd.func24, Tryd.ntmps24
    go_upto_region 1 with fail
    rw [HW.out]
    go_wp2_with (first | (go_at_call 33; refine (kI _).mono ?_; rintro e w1 ⟨rfl, hb1⟩) | (go_at_call 23; refine (kV _).mono ?_; rintro e w2 ⟨rfl, hb2⟩; have hx2 := (hx.below hb1).below hb2; have c0 := hx2.c0; have c1 := hx2.c1; have c2 := hx2.c2; have c3 := hx2.c3; have f0 := hx2.fz 0; have f1 := hx2.fz 1; have f2 := hx2.fz 2; have f3 := hx2.fz 3; have HX := hide' hx2; clear hx2))
    have hx2 := HX.out.set (k' := 2) (t' := s) (n' := ⟨#[]⟩) (a' := .slice none 0 0)
    have e0 := hx2.c0
    have e1 := hx2.c1
    have e2 := hx2.c2
    have e3 := hx2.c3
    refine bodyPost_ret (by simp [results, Tryd.results24, go_sem, e0, e1, e2, e3]; rfl) rfl ?_
    have hB1 := hB.trans (hb1.mono hB.size)
    have hB2 := hB1.trans (hb2.mono hB1.size)
    refine ⟨_, rfl, ⟨.slice none 0 0, ?_, ?_⟩, put4_below hB2 (Nat.le_refl _) _ _ _ _⟩
    · rw [HP.out]; unfold ptV vr; rw [mk_tl]
    · rw [HP.out]; exact World.ownsRow_nil _ _ _ _
  · obtain ⟨a, ha⟩ := Int.eq_ofNat_of_zero_le (by omega : 0 ≤ ia (tl s))
    rw [ha] at kI hle
    have hale : a ≤ s.size := by omega
    have hex : tl (s.extract 0 a) = (tl s).take a := by rw [ext_take, tl_mk]
    have hex2 : tl (s.extract a s.size) = (tl s).drop a := by rw [ext_drop, tl_mk]
    have kL := fun w hF => lookup_any (s.extract 0 a) w hF
    rw [hex] at kL
    generalize hE1 : s.extract 0 a = E1 at kL
    cases hfd : fnd ((tl s).take a) with
    | none =>
      have HP : Hid (ins (tl s) = vr (tl s)) := by
        show _ = _
        unfold ins
        rw [if_neg h0, ha]
        show (match fnd ((tl s).take a) with | none => _ | some f => _) = _
        rw [hfd]
      rw [hfd] at kL
      simp only [fnF, fnV, Option.isSome] at kL
      have kL2 : ∀ w1, Below W.heap.size W w1 → _ := fun w1 hb1 => kL w1 ((hF.low hF.lt hB).below hb1)
      clear hF h0 hfd ha kL hex hex2
      go_enter Tryd.func24, Tryd.ntmps24
      go_upto_region 1 with fail
      rw [HW.out]
      go_wp2_with (first | (go_at_call 33; refine (kI _).mono ?_; rintro e w1 ⟨rfl, hb1⟩) | (go_at_call 31; refine (kL2 _ hb1).mono ?_; rintro e w2 ⟨rfl, hb2⟩; have hb2' := hb2.alloc hb2.size (.cells #[.string (mk []), .int .i64 0, .int .i64 0] 58)) | (go_at_call 23; refine (kV _).mono ?_; rintro e w3 ⟨rfl, hb3⟩; have hx3 := ((hx.below hb1).below hb2').below hb3; have c0 := hx3.c0; have c1 := hx3.c1; have c2 := hx3.c2; have c3 := hx3.c3; have f0 := hx3.fz 0; have f1 := hx3.fz 1; have f2 := hx3.fz 2; have f3 := hx3.fz 3; have HX := hide' hx3; clear hx3))
      have hx2 := HX.out.set (k' := 2) (t' := s) (n' := ⟨#[]⟩) (a' := .slice none 0 0)
      have e0 := hx2.c0
      have e1 := hx2.c1
      have e2 := hx2.c2
      have e3 := hx2.c3
      refine bodyPost_ret (by simp [results, Tryd.results24, go_sem, e0, e1, e2, e3]; rfl) rfl ?_
      have hB1 := hB.trans (hb1.mono hB.size)
      have hB2 := hB1.trans (hb2'.mono hB1.size)
      have hB3 := hB2.trans (hb3.mono hB2.size)
      refine ⟨_, rfl, ⟨.slice none 0 0, ?_, ?_⟩, put4_below hB3 (Nat.le_refl _) _ _ _ _⟩
      · rw [HP.out]; unfold ptV vr; rw [mk_tl]
      · rw [HP.out]; exact World.ownsRow_nil _ _ _ _
    | some f =>
      obtain ⟨fi, hfi, hff⟩ : ∃ i, i < 34 ∧ f = fnAt i := mem_fn f (List.mem_of_find?_eq_some hfd)
      have hsm := fn_small fi hfi
      rw [← hff] at hsm
      have HP : Hid (ins (tl s) = ⟨3, [], f.1, arg f.2.2 [] [] [] (((tl s).drop a).dropWhile bl)⟩) := by
        show _ = _
        unfold ins
        rw [if_neg h0, ha]
        show (match fnd ((tl s).take a) with | none => _ | some f => _) = _
        rw [hfd]
        rfl
      rw [hfd] at kL
      obtain ⟨fn, fl, fm⟩ := f
      simp only [fnF, fnV, Option.isSome] at kL hsm
      have kL2 : ∀ w1, Below W.heap.size W w1 → _ := fun w1 hb1 => kL w1 ((hF.low hF.lt hB).below hb1)
      have kT := fun w => trimL_any (s.extract a s.size) w
      rw [hex2] at kT
      generalize hE2 : s.extract a s.size = E2 at kT
      obtain ⟨T, hT⟩ : ∃ T, T = mk (((tl s).drop a).dropWhile bl) := ⟨_, rfl⟩
      have hTl : tl T = ((tl s).drop a).dropWhile bl := by rw [hT]; exact tl_mk _
      have hz : T.size ≤ 100000 := by
        rw [← tl_len, hTl]
        have := drop_len ((tl s).drop a)
        rw [List.length_drop, tl_len] at this
        omega
      have kA := fun w => arguments_any T hz fm w
      rw [hTl] at kA
      rw [← hT] at kT
      have kC := fun w => clone_any (mk fn) w (by rw [mk_size]; omega)
      generalize arg fm [] [] [] (((tl s).drop a).dropWhile bl) = R at kA HP
      generalize hfnn : mk fn = fnn at kL2 kC
      have HFN := hide' hfnn
      clear hF h0 hfd ha kL hex hex2 hz hff hfi hsm hfnn hT hTl
      go_enter Tryd.func24, Tryd.ntmps24
      go_upto_region 1 with fail
      rw [HW.out]
      go_upto_region 7 with (first | (go_at_call 33; refine (kI _).mono ?_; rintro e w1 ⟨rfl, hb1⟩) | (go_at_call 31; refine (kL2 _ hb1).mono ?_; rintro e w2 ⟨rfl, hb2⟩))
      have hB3 := hb2.alloc hb2.size (.cells #[.string fnn, .int .i64 fl, .int .i64 fm] 58)
      have hF3 : (w2.alloc (.cells #[.string fnn, .int .i64 fl, .int .i64 fm] 58)).heap[w2.heap.size]? = some (.cells #[.string fnn, .int .i64 fl, .int .i64 fm] 58 (0, 0)) := heap_alloc_new w2 _
      generalize hW3 : w2.alloc (.cells #[.string fnn, .int .i64 fl, .int .i64 fm] 58) = W3 at hB3 hF3
      have hlt3 : w2.heap.size < W3.heap.size := lt_of_block hF3
      have hPC : ∀ W', Below W3.heap.size W3 W' → InC w2.heap.size fm W' := fun W' hb' => ⟨(hb'.cell (p := ⟨w2.heap.size, 2, none⟩) hlt3).trans (by rw [Lib.cell_of_heap hF3]; rfl)⟩
      have hPN : ∀ W', Below W3.heap.size W3 W' → W'.cell? ⟨w2.heap.size, 0, none⟩ = some (.string fnn) := fun W' hb' => (hb'.cell (p := ⟨w2.heap.size, 0, none⟩) hlt3).trans (by rw [Lib.cell_of_heap hF3]; rfl)
      have hBd : Below W3.heap.size W3 W3.drew := ⟨rfl, rfl, rfl, Nat.le_refl _, fun _ _ => rfl⟩
      have HPC := hide' hPC
      have HPN := hide' hPN
      have HX0 := hide' ((hx.below hb1).below hB3)
      clear hPC hPN hx hF3 hW3
      refine wp_region_classX [6, 7] (C := InC w2.heap.size fm) (by kernel_rfl) ?_
      (refine wpAnyX_take (i := 0) (v := ?_) (HPC.out _ hBd) rfl (by kernel_rfl) (by kernel_rfl) (by kernel_rfl) (by kernel_rfl) (fun _ _ _ h => h) (Or.inl ⟨by kernel_rfl, ?_⟩) ?_; rotate_left; (intro w hc; have k0 := hc.most; clear hc; go_simp; try with_reducible rfl))
      (refine wpAnyX_take (i := 1) (v := ?_) (HPC.out _ hBd) rfl (by kernel_rfl) (by kernel_rfl) (by kernel_rfl) (by kernel_rfl) (fun _ _ _ h => h) (Or.inl ⟨by kernel_rfl, ?_⟩) ?_; rotate_left; (intro w hc; have k0 := hc.most; clear hc; go_simp; try with_reducible rfl))
      (refine wpAnyX_take (i := 2) (v := ?_) (HPC.out _ hBd) rfl (by kernel_rfl) (by kernel_rfl) (by kernel_rfl) (by kernel_rfl) (fun _ _ _ h => h) (Or.inl ⟨by kernel_rfl, ?_⟩) ?_; rotate_left; (intro w hc; have k0 := hc.most; clear hc; go_simp; try with_reducible rfl))
      (refine wpAnyX_take (i := 4) (v := ?_) (HPC.out _ hBd) rfl (by kernel_rfl) (by kernel_rfl) (by kernel_rfl) (by kernel_rfl) (fun _ _ _ h => h) (Or.inl ⟨by kernel_rfl, ?_⟩) ?_; rotate_left; (intro w hc; have k0 := hc.most; clear hc; go_simp; try with_reducible rfl))
      (refine wpAnyX_take (i := 5) (v := ?_) (HPC.out _ hBd) rfl (by kernel_rfl) (by kernel_rfl) (by kernel_rfl) (by kernel_rfl) (fun _ _ _ h => h) (Or.inl ⟨by kernel_rfl, ?_⟩) ?_; rotate_left; (intro w hc; have k0 := hc.most; clear hc; go_simp; try with_reducible rfl))
      go_simp
      refine wpAnyX_one (i := 3) (by kernel_rfl) (wpOp_wanted rfl (by rfl) ?_)
      go_simp
      refine (kT _).mono ?_
      rintro e w4 ⟨rfl, hb4⟩
      have hB4 := hBd.trans (hb4.mono hBd.size)
      refine ⟨HPC.out _ hB4, ?_⟩
      refine wpAnyX_one (i := 6) (by kernel_rfl) (wpOp_wanted rfl (by rfl) ?_)
      go_simp
      refine (kA _).mono ?_
      rintro e w5 ⟨av, rfl, hrow, hb5⟩
      have hB5 := hB4.trans (hb5.mono hB4.size)
      have hs5 : w.heap.size ≤ w4.heap.size := Nat.le_trans hB.size (Nat.le_trans hb1.size (Nat.le_trans hB3.size hB4.size))
      have hrow2 := own_mono hrow hs5
      obtain ⟨a0, ac, rfl⟩ := own_len hrow
      refine wpAnyX_one (i := 7) (by kernel_rfl) (wpOp_wanted rfl (by rfl) ?_)
      go_simp
      refine wpAnyX_done (by kernel_rfl) ?_ _
      have n5 := HPN.out _ hB5
      have HX5 := hide' (HX0.out.below hB5)
      have HR5 := hide' hrow2
      have HB5 := hide' hB5
      clear hb4 hb5 hB5 hrow hrow2 hB4 hBd HPC HPN hs5
      go_wp2_with (go_at_call 29; refine (kC _).mono ?_; rintro e w6 ⟨rfl, hb6⟩; have hx6 := HX5.out.below hb6; have c0 := hx6.c0; have c1 := hx6.c1; have c2 := hx6.c2; have c3 := hx6.c3; have f0 := hx6.fz 0; have f1 := hx6.fz 1; have f2 := hx6.fz 2; have f3 := hx6.fz 3; have HX := hide' hx6; clear hx6)
      have hx2 := HX.out.set (k' := 3) (t' := ⟨#[]⟩) (n' := fnn) (a' := .slice a0 (List.length R) ac)
      have e0 := hx2.c0
      have e1 := hx2.c1
      have e2 := hx2.c2
      have e3 := hx2.c3
      refine bodyPost_ret (by simp [results, Tryd.results24, go_sem, e0, e1, e2, e3]; rfl) rfl ?_
      have hB1 := hB.trans (hb1.mono hB.size)
      have hBx := hB1.trans (hB3.mono hB1.size)
      have hBy := hBx.trans (HB5.out.mono hBx.size)
      have hBz := hBy.trans (hb6.mono hBy.size)
      refine ⟨_, rfl, ⟨.slice a0 (List.length R) ac, ?_, ?_⟩, put4_below hBz (Nat.le_refl _) _ _ _ _⟩
      · rw [HP.out]
        unfold ptV
        rw [HFN.out]
      · rw [HP.out]
        have hr6 := own_below HR5.out hb6
        have hXo : Bx4 _ _ _ _ _ _ := HX.out
        refine own_kept hr6 fun g hg => put4_other _ _ _ (fun e => ?_) _ _ _ _
        subst e
        exact own_block hr6 hXo (by decide) hg
end Go.Proofs.YtaemmgllhmjceaaDoor
