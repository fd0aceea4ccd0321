/- The contracts of the reference's Set, Append, Undefine and Export. -/
import Derived.Test.YtillechackcbpaaRn
namespace Go.Proofs.Ytillechackcbpaa
open Go.RowKit Go.Maps

theorem rset_any (R : Nat) (v : Value) (L : Vs) (p u : Bs) (f o : Int) (w : World) (h : Rf w R v L) :
    Calls Try.prog 17 #[.pointer (some ⟨R, 0, none⟩), .string (mk p), .string (mk u), .int .i64 f, .int .i64 o] w fun r w' => r = .returned (.bool (setOk L p o)) ∧ ∃ v', RChg w w' R v v' (setL L p u f o) := by
  cases hf : fnd L p with
  | some x =>
    by_cases ho : o < x.origin
    · have hh : held L p o = true := by unfold held; rw [getV_some hf, hf]; simpa using ho
      unfold setOk setL
      rw [hh, if_pos rfl]
      refine (rset_held R v L p u f o w h x hf ho).mono ?_
      rintro r w' ⟨rfl, hb⟩
      exact ⟨rfl, v, RChg.same h hb⟩
    · have hh : held L p o = false := by unfold held; rw [getV_some hf, hf]; simpa using ho
      have hr : room L p = true := by unfold room; rw [hf]; rfl
      unfold setOk setL putIf
      rw [hh, hr, if_neg (by simp), if_pos rfl, getV_some hf]
      refine (rset_old R v L p u f o w h x hf ho).mono ?_
      rintro r w' ⟨rfl, hb⟩
      exact ⟨rfl, v, hb⟩
  | none =>
    have hh : held L p o = false := by unfold held; rw [hf]; rfl
    by_cases hc : L.length < 1000
    · have hr : room L p = true := by unfold room; rw [hf]; simpa using hc
      unfold setOk setL putIf
      rw [hh, hr, if_neg (by simp), if_pos rfl, getV_none hf]
      exact rset_new R v L p u f o w h hf hc
    · have hr : room L p = false := by unfold room; rw [hf]; simpa using hc
      unfold setOk setL putIf
      rw [hh, hr, if_neg (by simp), if_neg (by simp)]
      refine (rset_full R v L p u f o w h hf (by omega)).mono ?_
      rintro r w' ⟨rfl, hb⟩
      exact ⟨rfl, v, RChg.same h hb⟩
set_option maxRecDepth 100000 in
set_option maxHeartbeats 4000000 in
/-- put, to take away -/
theorem rput_some (R : Nat) (v : Value) (L : Vs) (p : Bs) (y : Vr) (w : World) (h : Rf w R v L) (x : Vr) (hf : fnd L p = some x) :
    Calls Try.prog 49 #[.pointer (some ⟨R, 0, none⟩), .string (mk p), vV y, .bool false] w fun r w' => r = .returned (.tuple #[]) ∧ ∃ v', RChg w w' R v v' (del L p) := by
  have b1 : ∀ o, Below w.heap.size w (w.alloc o) := fun o => below_alloc (Below.refl _ _) (Nat.le_refl _) o
  have q := fun o => rat_any R v L p (w.alloc o) (h.below (b1 o))
  rw [hf] at q
  dsimp only [Option.isSome] at q
  obtain ⟨va, vc, hv⟩ := h.row.len
  rw [List.length_map] at hv
  subst hv
  obtain ⟨yn, yv, yf, yo, ye⟩ := y
  dsimp only [vV]
  have H := hide' h
  clear h
  go_enter Try.func49, Try.ntmps49
  go_wp2_with fail
  refine (q _).mono ?_
  rintro r w2 ⟨k, rfl, hk, hb2⟩
  have hB2 : Below w.heap.size w w2 := (b1 _).trans (hb2.mono (b1 _).size)
  have hr2 := H.out.below hB2
  have hLk := hk.found hf hr2.srt
  have hkl := (List.getElem?_eq_some_iff.1 hLk).1
  obtain ⟨W4, hWW⟩ : ∃ W4, W4 = w2.drew := ⟨_, rfl⟩
  have hR4 : Rf W4 R (.slice va L.length vc) L := by rw [hWW]; exact hr2.keep rfl fun _ _ => rfl
  have hB4 : Below w.heap.size w W4 := by rw [hWW]; exact hB2.drew
  have hlm : (L.map (·.2)).length = L.length := List.length_map _
  obtain ⟨ys, hy, hyo, hyb, ya, ym, yc, rfl⟩ := slice_to hR4.row (k := k) (by rw [hlm]; omega)
  obtain ⟨xs, hx, hxs, xa, xm, xc, rfl⟩ := slice_from hR4.row (k := k + 1) (by rw [hlm]; omega)
  have hx' : ∀ W : World, (Instr.slice 28 (.slice va L.length vc) (some (.int .i64 ((k : Int) + 1))) none none).run Try.prog W = .ok (.slice xa xm xc) W := fun W => by have := hx W; simpa using this
  have hC4 : W4.cell? ⟨R, 0, none⟩ = some (.slice va L.length vc) := hR4.rb.c0
  have hRlt : R < W4.heap.size := lt_of_block hR4.rb
  have cK : ∀ {w1 w2 : World}, w1.cell? ⟨R, 0, none⟩ = some (.slice va L.length vc) → w2.heap[R]? = w1.heap[R]? → w2.cell? ⟨R, 0, none⟩ = some (.slice va L.length vc) := fun h hR => (World.cell?_of_block (a := ⟨R, 0, none⟩) hR).trans h
  have hcn := hr2.cnt
  have hwr : IntKind.i64.wrap ((k : Int) + 1) = (k : Int) + 1 := i64_id _ (by omega)
  have HC4 := hide' hC4
  have HR4 := hide' hR4
  have HB4 := hide' hB4
  have HYS := hide' hyo.src
  have HXS := hide' hxs
  have HLK := hide' hLk
  clear hC4 hR4 hB4 hyo hxs hyb hr2 hLk hb2 q b1 hk hB2 hf
  go_upto_region 3 with fail
  refine wp_region_classX [18] (C := fun W => W.cell? ⟨R, 0, none⟩ = some (.slice va L.length vc)) (by kernel_rfl) ?_
  rw [← hWW]
  clear hWW
  (refine wpAnyX_take (i := 0) (v := ?_) HC4.out rfl (by kernel_rfl) (by kernel_rfl) (by kernel_rfl) (by kernel_rfl) (fun _ _ _ h => h) (Or.inl ⟨by kernel_rfl, ?_⟩) ?_; rotate_left; (intro w hc; have k0 := hc; clear hc; go_simp; try with_reducible rfl))
  (refine wpAnyX_take (i := 1) (v := ?_) HC4.out rfl (by kernel_rfl) (by kernel_rfl) (by kernel_rfl) (by kernel_rfl) (fun _ _ _ h => h) (Or.inl ⟨by kernel_rfl, ?_⟩) ?_; rotate_left; (intro w hc; have k0 := hc; clear hc; go_simp; try with_reducible rfl))
  (refine wpAnyX_take (i := 2) (v := ?_) HC4.out rfl (by kernel_rfl) (by kernel_rfl) (by kernel_rfl) (by kernel_rfl) (fun _ _ _ h => h) (Or.inl ⟨by kernel_rfl, ?_⟩) ?_; rotate_left; (intro w hc; have k0 := hc; clear hc; go_simp; try with_reducible rfl))
  (refine wpAnyX_take (i := 3) (v := ?_) HC4.out rfl (by kernel_rfl) (by kernel_rfl) (by kernel_rfl) (by kernel_rfl) (fun _ _ _ h => h) (Or.inl ⟨by kernel_rfl, ?_⟩) ?_; rotate_left; (intro w hc; have k0 := hc; clear hc; go_simp; try with_reducible rfl))
  (refine wpAnyX_take (i := 4) (v := ?_) HC4.out rfl (by kernel_rfl) (by kernel_rfl) (by kernel_rfl) (by kernel_rfl) (fun _ _ _ h => h) (Or.inl ⟨by kernel_rfl, ?_⟩) ?_; rotate_left; (intro w hc; have k0 := hc; clear hc; go_simp; try with_reducible rfl))
  go_simp
  (refine wpAnyX_take (i := 5) (v := ?_) HC4.out rfl (by kernel_rfl) (by kernel_rfl) (by kernel_rfl) (by kernel_rfl) (fun _ _ _ h => h) (Or.inl ⟨by kernel_rfl, ?_⟩) ?_; rotate_left; (intro w hc; have k0 := hc; clear hc; go_simp; try with_reducible rfl))
  (refine wpAnyX_take (i := 6) (v := ?_) HC4.out rfl (by kernel_rfl) (by kernel_rfl) (by kernel_rfl) (by kernel_rfl) (fun _ _ _ h => h) (Or.inl ⟨by kernel_rfl, ?_⟩) ?_; rotate_left; (intro w hc; have k0 := hc; clear hc; go_simp; try with_reducible rfl))
  (refine wpAnyX_take (i := 8) (v := ?_) HC4.out rfl (by kernel_rfl) (by kernel_rfl) (by kernel_rfl) (by kernel_rfl) (fun _ _ _ h => h) (Or.inl ⟨by kernel_rfl, ?_⟩) ?_; rotate_left; (intro w hc; have k0 := hc; clear hc; go_simp; try with_reducible rfl))
  (refine wpAnyX_take (i := 9) (v := ?_) HC4.out rfl (by kernel_rfl) (by kernel_rfl) (by kernel_rfl) (by kernel_rfl) (fun _ _ _ h => h) (Or.inl ⟨by kernel_rfl, ?_⟩) ?_; rotate_left; (intro w hc; have k0 := hc; clear hc; go_simp; try with_reducible rfl))
  (refine wpAnyX_take (i := 10) (v := ?_) HC4.out rfl (by kernel_rfl) (by kernel_rfl) (by kernel_rfl) (by kernel_rfl) (fun _ _ _ h => h) (Or.inl ⟨by kernel_rfl, ?_⟩) ?_; rotate_left; (intro w hc; have k0 := hc; clear hc; go_simp; try with_reducible rfl))
  go_simp
  (refine wpAnyX_take (i := 11) (v := ?_) HC4.out rfl (by kernel_rfl) (by kernel_rfl) (by kernel_rfl) (by kernel_rfl) (fun _ _ _ h => h) (Or.inl ⟨by kernel_rfl, ?_⟩) ?_; rotate_left; (intro w hc; have k0 := hc; clear hc; go_simp; try with_reducible rfl))
  (refine wpAnyX_take (i := 12) (v := ?_) HC4.out rfl (by kernel_rfl) (by kernel_rfl) (by kernel_rfl) (by kernel_rfl) (fun _ _ _ h => h) (Or.inl ⟨by kernel_rfl, ?_⟩) ?_; rotate_left; (intro w hc; have k0 := hc; clear hc; go_simp; try with_reducible rfl))
  (refine wpAnyX_take (i := 13) (v := ?_) HC4.out rfl (by kernel_rfl) (by kernel_rfl) (by kernel_rfl) (by kernel_rfl) (fun _ _ _ h => h) (Or.inl ⟨by kernel_rfl, ?_⟩) ?_; rotate_left; (intro w hc; have k0 := hc; clear hc; go_simp; try with_reducible rfl))
  (refine wpAnyX_take (i := 14) (v := ?_) HC4.out rfl (by kernel_rfl) (by kernel_rfl) (by kernel_rfl) (by kernel_rfl) (fun _ _ _ h => h) (Or.inl ⟨by kernel_rfl, ?_⟩) ?_; rotate_left; (intro w hc; have k0 := hc; clear hc; go_simp; try with_reducible rfl))
  go_simp
  clear hx hx' hy hwr
  refine wpAnyX_one (i := 7) (by kernel_rfl) (wpOp_wanted rfl (by rfl) ?_)
  refine wp_append28 (v := .slice none 0 0) (xs := []) (x := .slice ya ym yc) _ _ _ rfl rfl rfl (VOwn.nil _) HYS.out (by rw [List.length_take]; simp; omega) ?_
  intro v9 w9 ho9 hg9 hat9
  rw [List.nil_append] at ho9
  have n1 : some R ≠ (Value.slice none 0 0).ownBlock := fun e => by cases e
  have hC9 : w9.cell? ⟨R, 0, none⟩ = some (.slice va L.length vc) := cK HC4.out (hg9.block R hRlt n1)
  have hs9 := hg9.size
  have hat9' : ∀ g, v9.ownBlock = some g → W4.heap.size ≤ g := fun g hg => by
    rcases hat9 with h | h
    · rw [h] at hg; cases hg
    · rw [h] at hg; cases hg; omega
  have hk9 : ∀ b, b < W4.heap.size → w9.heap[b]? = W4.heap[b]? := fun b hb => hg9.block b hb fun e => by cases e
  refine ⟨fun _ => hC9, ?_⟩
  have hxs9 : VSrc w9 (.slice xa xm xc) ((L.map (·.2)).drop (k + 1)) := by
    rcases HXS.out with h1 | ⟨a, c, e, hc⟩
    · exact .inl h1
    · exact .inr ⟨a, c, e, fun j u hj => (World.cell?_of_block (a := a.add j) (hk9 _ (World.block_lt_of_cell? _ _ (hc j u hj)))).trans (hc j u hj)⟩
  refine wpAnyX_one (i := 15) (by kernel_rfl) (wpOp_wanted rfl (by rfl) ?_)
  refine wp_append28 (v := v9) (x := .slice xa xm xc) _ _ _ rfl rfl rfl ho9 hxs9 (by rw [List.length_take, List.length_drop]; omega) ?_
  intro v11 w11 ho11 hg11 hat11
  have n3 : some R ≠ v9.ownBlock := fun e => by have := hat9' R e.symm; omega
  have hC11 : w11.cell? ⟨R, 0, none⟩ = some (.slice va L.length vc) := cK hC9 (hg11.block R (by omega) n3)
  have hs11 := hg11.size
  have hR11 : Rb w11 R (.slice va L.length vc) := (hg11.block R (by omega) n3).trans ((hk9 R (by omega)).trans HR4.out.rb)
  have f11 := Lib.frozen_of_heap hR11 0
  obtain ⟨v11a, v11c, hv11⟩ := ho11.len
  generalize hnn : (List.take k (L.map (·.2)) ++ List.drop (k + 1) (L.map (·.2))).length = nn at hv11
  subst hv11
  refine ⟨fun _ => hC11, ?_⟩
  have HC11 := hide' hC11
  clear hC11 hC9
  refine wpAnyX_one (i := 16) (by kernel_rfl) (wpOp_wanted rfl (by rfl) ?_)
  have hc11 := HC11.out
  go_simp
  refine wpAnyX_one (i := 17) (by kernel_rfl) (wpOp_wanted rfl (by rfl) ?_)
  go_simp
  refine wpAnyX_one (i := 18) (by kernel_rfl) (wpOp_wanted rfl (by rfl) ?_)
  go_simp
  refine wpAnyX_done (by kernel_rfl) ?_ _
  obtain ⟨w12, hw12⟩ : ∃ w12, w12 = w11.setCell ⟨R, 0, none⟩ (.slice v11a nn v11c) := ⟨_, rfl⟩
  rw [← hw12]
  have hset : ∀ b, b ≠ R → w12.heap[b]? = w11.heap[b]? := fun b hb => by rw [hw12]; exact Below.heap_setCell w11 ⟨R, 0, none⟩ _ b (by simpa using hb)
  have hR12 : Rb w12 R (.slice v11a nn v11c) := by rw [hw12]; exact set_row hR11 0 _
  have hs12 : w12.heap.size = w11.heap.size := by rw [hw12]; simp
  have hos12 : w12.os = w11.os ∧ w12.tape = w11.tape ∧ w12.output = w11.output := by rw [hw12]; exact ⟨rfl, rfl, rfl⟩
  have hat11' : ∀ g, (Value.slice v11a nn v11c).ownBlock = some g → W4.heap.size ≤ g := fun g hg => by
    rcases hat11 with h | h
    · rw [h] at hg; exact hat9' g hg
    · rw [h] at hg; cases hg; omega
  have hT : Turn (fun i => i = R ∨ W4.heap.size ≤ i) W4 w12 := by
    have t2 : Turn (fun i => i = R ∨ W4.heap.size ≤ i) W4 w9 := Turn.of_grown hg9 fun g e => by cases e
    have t3 : Turn (fun i => i = R ∨ W4.heap.size ≤ i) w9 w11 := Turn.of_grown hg11 fun g e => .inr (hat9' g e)
    have t4 : Turn (fun i => i = R ∨ W4.heap.size ≤ i) w11 w12 := ⟨hos12.1, hos12.2.1, hos12.2.2, Nat.le_of_eq hs12.symm, fun b _ hn => hset b fun e => hn (.inl e)⟩
    exact (t2.trans' t3).trans' t4
  have hTS : Turn (fun i => i = R ∨ (Value.slice va L.length vc).ownBlock = some i) W4 w12 := (Turn.refl _ W4).trans hT fun i hi => hi.imp .inl id
  have hdl : (del L p).map (·.2) = List.take k (L.map (·.2)) ++ List.drop (k + 1) (L.map (·.2)) := by
    rw [del_at H.out.srt HLK.out]
    simp
  have hend : RChg w w12 R (.slice va L.length vc) (.slice v11a nn v11c) (del L p) := by
    refine RChg.after HB4.out ⟨⟨hR12, ?_, H.out.srt.del p, fun e he => H.out.nm e (mem_del.1 he).1, Nat.le_trans (del_length_le _ _) hcn⟩, hTS, fun g hg => .inr (hat11' g hg)⟩
    rw [hdl]
    refine ho11.kept fun g hg => hset g fun e => ?_
    have := hat11' g hg
    omega
  have HEND := hide' hend
  clear hend hTS hT hw12
  go_wp2
  go_end0
  exact ⟨rfl, _, HEND.out⟩
theorem rput_none (R : Nat) (v : Value) (L : Vs) (p : Bs) (y : Vr) (w : World) (h : Rf w R v L) (hf : fnd L p = none) :
    Calls Try.prog 49 #[.pointer (some ⟨R, 0, none⟩), .string (mk p), vV y, .bool false] w fun r w' => r = .returned (.tuple #[]) ∧ ∃ v', RChg w w' R v v' (del L p) := by
  have b1 : ∀ o, Below w.heap.size w (w.alloc o) := fun o => below_alloc (Below.refl _ _) (Nat.le_refl _) o
  have q := fun o => rat_any R v L p (w.alloc o) (h.below (b1 o))
  rw [hf] at q
  dsimp only [Option.isSome] at q
  rw [del_none hf]
  obtain ⟨yn, yv, yf, yo, ye⟩ := y
  dsimp only [vV]
  have H := hide' h
  clear h hf
  go_enter Try.func49, Try.ntmps49
  go_wp2_with fail
  refine (q _).mono ?_
  rintro r w2 ⟨k, rfl, hk, hb2⟩
  have HB2 : Hid (Below w.heap.size w w2) := (b1 _).trans (hb2.mono (b1 _).size)
  clear hb2 q b1 hk
  go_wp2
  go_end0
  exact ⟨rfl, v, RChg.same H.out HB2.out⟩
theorem rput_any (R : Nat) (v : Value) (L : Vs) (p : Bs) (y : Vr) (w : World) (h : Rf w R v L) :
    Calls Try.prog 49 #[.pointer (some ⟨R, 0, none⟩), .string (mk p), vV y, .bool false] w fun r w' => r = .returned (.tuple #[]) ∧ ∃ v', RChg w w' R v v' (del L p) := by
  cases hf : fnd L p with
  | none => exact rput_none R v L p y w h hf
  | some x => exact rput_some R v L p y w h x hf
set_option maxRecDepth 100000 in
set_option maxHeartbeats 2000000 in
theorem rund_any (R : Nat) (v : Value) (L : Vs) (p : Bs) (o : Int) (w : World) (h : Rf w R v L) :
    Calls Try.prog 28 #[.pointer (some ⟨R, 0, none⟩), .string (mk p), .int .i64 o] w fun r w' => r = .returned (.bool (!held L p o)) ∧ ∃ v', RChg w w' R v v' (undL L p o) := by
  have q1 := rget_any R v L p w h
  have q2 : Hid (∀ y W, Below w.heap.size w W → Calls Try.prog 49 #[.pointer (some ⟨R, 0, none⟩), .string (mk p), vV y, .bool false] W fun r w' => r = .returned (.tuple #[]) ∧ ∃ v', RChg w w' R v v' (del L p)) := fun y W hW => by
    refine (rput_any R v L p y W (h.below hW)).mono ?_
    rintro r w' ⟨rfl, v', hc⟩
    exact ⟨rfl, v', RChg.after hW hc⟩
  have H := hide' h
  clear h
  unfold undL held
  generalize (fnd L p).isSome = fb at q1 ⊢
  generalize hg : getV L p = g at q1 ⊢
  have q3 := hide' (q2.out g)
  obtain ⟨xn, xv, xf, xo, xe⟩ := g
  clear hg q2
  dsimp only [vV] at q1 q3 ⊢
  by_cases hh : (fb && decide (o < xo)) = true
  · rw [hh, if_pos rfl]
    obtain ⟨h1, h2⟩ := Bool.and_eq_true_iff.1 hh
    subst h1
    have h3 : o < xo := of_decide_eq_true h2
    clear hh h2 q3
    go_enter Try.func28, Try.ntmps28
    go_wp2_with fail
    refine q1.mono ?_
    rintro r w1 ⟨rfl, hb1⟩
    have HB := hide' hb1
    clear hb1 q1
    go_wp2
    go_ret
    exact ⟨rfl, v, RChg.same H.out (below_alloc HB.out (Nat.le_refl _) _)⟩
  · have hh' : (fb && decide (o < xo)) = false := by simpa using hh
    rw [hh', if_neg (by simp)]
    cases fb with
    | true =>
      have h3 : ¬ o < xo := by simpa using hh
      clear hh hh'
      go_enter Try.func28, Try.ntmps28
      go_wp2_with fail
      refine q1.mono ?_
      rintro r w1 ⟨rfl, hb1⟩
      have HQ : Hid (∀ x, _) := fun x => q3.out (w1.alloc x) (below_alloc hb1 (Nat.le_refl _) x)
      clear hb1 q1 q3
      go_wp2_with fail
      refine (HQ.out _).mono ?_
      rintro r w2 ⟨rfl, hc⟩
      go_wp2
      go_ret
      exact ⟨rfl, hc⟩
    | false =>
      clear hh hh'
      go_enter Try.func28, Try.ntmps28
      go_wp2_with fail
      refine q1.mono ?_
      rintro r w1 ⟨rfl, hb1⟩
      have HQ : Hid (∀ x, _) := fun x => q3.out (w1.alloc x) (below_alloc hb1 (Nat.le_refl _) x)
      clear hb1 q1 q3
      go_wp2_with fail
      refine (HQ.out _).mono ?_
      rintro r w2 ⟨rfl, hc⟩
      go_wp2
      go_ret
      exact ⟨rfl, hc⟩
set_option maxRecDepth 100000 in
set_option maxHeartbeats 2000000 in
theorem rapp_any (R : Nat) (va : Value) (L : Vs) (p v : Bs) (o : Int) (w : World) (h : Rf w R va L) (hv : (getV L p).value.length + 1 + v.length ≤ 1000000) :
    Calls Try.prog 27 #[.pointer (some ⟨R, 0, none⟩), .string (mk p), .string (mk v), .int .i64 o] w fun r w' => r = .returned (.bool (setOk L p o)) ∧ ∃ v', RChg w w' R va v' (setL L p (appV L p v) (appF L p) o) := by
  have q2 := rget_any R va L p w h
  have q3 : Hid (∀ u f W, Below w.heap.size w W → Calls Try.prog 17 #[.pointer (some ⟨R, 0, none⟩), .string (mk p), .string (mk u), .int .i64 f, .int .i64 o] W fun r w' => r = .returned (.bool (setOk L p o)) ∧ ∃ v', RChg w w' R va v' (setL L p u f o)) := fun u f W hW => by
    refine (rset_any R va L p u f o W (h.below hW)).mono ?_
    rintro r w' ⟨rfl, v', hc⟩
    exact ⟨rfl, v', RChg.after hW hc⟩
  clear h
  unfold appV appF
  generalize (fnd L p).isSome = fb at q2 ⊢
  generalize getV L p = g at q2 hv ⊢
  obtain ⟨xn, xv, xf, xo, xe⟩ := g
  dsimp only [vV] at q2 hv ⊢
  generalize setOk L p o = so at q3 ⊢
  cases fb with
  | false =>
    simp only [Bool.false_and, Bool.false_eq_true, if_false]
    go_enter Try.func27, Try.ntmps27
    go_wp2_with fail
    refine q2.mono ?_
    rintro r w2 ⟨rfl, hb2⟩
    have Q := q3.out v 1 (w2.alloc (.cells #[.string (mk xn), .string (mk xv), .int .i64 xf, .int .i64 xo, .int .i64 xe] 36)) (below_alloc hb2 (Nat.le_refl _) _)
    clear q2 hb2
    go_wp2_with fail
    refine Q.mono ?_
    rintro r w3 ⟨rfl, hc⟩
    go_wp2
    go_ret
    exact ⟨rfl, hc⟩
  | true =>
    simp only [Bool.true_and, if_true]
    cases xv with
    | nil =>
      simp only [List.isEmpty_nil, Bool.not_true, Bool.false_eq_true, if_false]
      go_enter Try.func27, Try.ntmps27
      go_wp2_with fail
      refine q2.mono ?_
      rintro r w2 ⟨rfl, hb2⟩
      have Q := q3.out v xf (w2.alloc (.cells #[.string (mk xn), .string (mk []), .int .i64 xf, .int .i64 xo, .int .i64 xe] 36)) (below_alloc hb2 (Nat.le_refl _) _)
      clear q2 hb2
      go_wp2_with fail
      refine Q.mono ?_
      rintro r w3 ⟨rfl, hc⟩
      go_wp2
      go_ret
      exact ⟨rfl, hc⟩
    | cons c xv =>
      simp only [List.isEmpty_cons, Bool.not_false, if_true]
      have hv0 := hv
      rw [List.length_cons] at hv0
      have hv1 : ¬ 9223372036854775807 < xv.length + 1 + 1 := by omega
      have hv2 : ¬ 9223372036854775807 < xv.length + 1 + 1 + List.length v := by omega
      have hne : (mk (c :: xv)).data.toList.isEmpty = false := by simp
      go_enter Try.func27, Try.ntmps27
      go_wp2_with fail
      refine q2.mono ?_
      rintro r w2 ⟨rfl, hb2⟩
      have Q := q3.out (c :: xv ++ 32 :: v) xf (w2.alloc (.cells #[.string (mk xn), .string (mk (c :: xv)), .int .i64 xf, .int .i64 xo, .int .i64 xe] 36)) (below_alloc hb2 (Nat.le_refl _) _)
      rw [show mk (c :: xv ++ 32 :: v) = mk (c :: xv) ++ ⟨#[32]⟩ ++ mk v from tl_inj _ _ (by simp [tl])] at Q
      clear q2 hb2 hv hv0
      go_wp2_with fail
      refine Q.mono ?_
      rintro r w3 ⟨rfl, hc⟩
      go_wp2
      go_ret
      exact ⟨rfl, hc⟩
end Go.Proofs.Ytillechackcbpaa
