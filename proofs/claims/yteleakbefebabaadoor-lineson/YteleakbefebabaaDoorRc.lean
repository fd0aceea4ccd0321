/- The contract of lines.recipe: the text of the first logical line, as a recipe's, and how many lines it has. -/
import Derived.Test.YteleakbefebabaaDoorBw
namespace Go.Proofs.YteleakbefebabaaDoor
open Go.RowKit Go.Shelf
attribute [local go_sem] Oper.semAt_some

/-- the sizes of the lines are within bounds -/
structure Szs (L : List ByteArray) : Prop where
  len : L.length ≤ 1000000
  each : ∀ j, (L.getD j ⟨#[]⟩).size ≤ 1000000
  sum : tot (L.map tl) ≤ 1000000
theorem take_sum (L : List ByteArray) (k : Nat) : tot ((L.take k).map tl) ≤ tot (L.map tl) := by
  conv => rhs; rw [← List.take_append_drop k L, List.map_append, tot_app]
  omega
theorem box_own {β : Type} (B : Nat) (t : TypeId) (f : β → Value) (N : Nat) : OwnFrom N (fun s W => Boxed W B t (f s)) := fun s W W' row hs hg hr => by
  refine hs.kept hg (fun e => ?_)
  obtain ⟨_, o, ho, hc⟩ := hr B e.symm
  rw [show W.heap[B]? = _ from hs] at ho; cases ho; cases hc

/-- what holds between two rounds of recipe -/
structure RcI (w : World) (R : Nat) (pre : List ByteArray) (W : World) : Prop where
  bld : BR R w.heap.size (rcp (pre.map tl)) W
  cnt : Boxed W (w.heap.size + 1) 3 (.int .i64 pre.length)
  below : Below w.heap.size w W
  room : R ≤ W.heap.size
theorem RcI.own (w : World) (R N : Nat) (hwN : w.heap.size ≤ N) : OwnFrom N (RcI w R) := fun s W W' row hs hg hr =>
  ⟨BR.own R w.heap.size (fun pre : List ByteArray => rcp (pre.map tl)) N s W W' row hs.bld hg hr, box_own (w.heap.size + 1) 3 (fun pre : List ByteArray => .int .i64 pre.length) N s W W' row hs.cnt hg hr,
   hs.below.grown hg hs.below.size (fun k e => Nat.le_trans hwN (hr k e).1), Nat.le_trans hs.room hg.size⟩

/-- the end of a round -/
theorem rc_end {w W W2 : World} {R : Nat} {pre : List ByteArray} {x : ByteArray} {A : Nat → Prop} (hA : A = fun k => k = w.heap.size ∨ k = w.heap.size + 1) (hR : w.heap.size + 1 < R)
    (hcnt : Boxed W (w.heap.size + 1) 3 (.int .i64 pre.length)) (hbel : Below w.heap.size w W) (hroom : R ≤ W.heap.size) (hb : BR R w.heap.size (rcp ((pre ++ [x]).map tl)) W2) (hw : Wr R w.heap.size W W2) :
    Boxed W2 (w.heap.size + 1) 3 (.int .i64 pre.length) ∧ KeepsFrom R W (W2.setCell ⟨w.heap.size + 1, 0, none⟩ (.int .i64 (pre.length + 1))) ∧ Kf A R W (W2.setCell ⟨w.heap.size + 1, 0, none⟩ (.int .i64 (pre.length + 1))) ∧ RcI w R (pre ++ [x]) (W2.setCell ⟨w.heap.size + 1, 0, none⟩ (.int .i64 (pre.length + 1))) := by
  have hc2 := hw.box hcnt hR (by omega)
  have hg := grownBy_setCell' W2 (w.heap.size + 1) (.int .i64 (pre.length + 1))
  have hk : Kf A R W2 (W2.setCell ⟨w.heap.size + 1, 0, none⟩ (.int .i64 (pre.length + 1))) := ⟨hg.size, fun k _ hk => Below.heap_setCell _ _ _ _ (fun e => hk (by rw [hA]; exact .inr e))⟩
  refine ⟨hc2, (hw.others.trans (KeepsOthers.setCell _ _ _)).from _, (hw.kf (by rw [hA]; exact .inl rfl)).t hk, hb.kept hg (by simp) (fun g e => .inl (by cases e; omega)), ?_, ?_, Nat.le_trans hroom (Nat.le_trans hw.below.size hg.size)⟩
  · have := hc2.set (.int .i64 (pre.length + 1))
    simpa using this
  · exact (hbel.trans (hw.below)).setCell (p := ⟨w.heap.size + 1, 0, none⟩) (by simp) _

set_option maxRecDepth 100000 in
set_option maxHeartbeats 2000000 in
theorem recipe_any (L : List ByteArray) (al : Option Addr) (cl : Nat) (w : World) (hz : Szs L) (hL : Txt w al L) :
    Calls Tryd.prog 21 #[.slice al L.length cl] w fun e w' => e = .returned (.tuple #[.string (mk (rcp (jn (L.map tl)))), .int .i64 (jn (L.map tl)).length]) ∧ Below w.heap.size w w' := by
  have HL := hide' hL
  have HZ := hide' hz
  clear hL hz
  obtain ⟨m, HM⟩ : ∃ m, Hid (m = (jn (L.map tl)).length) := ⟨_, rfl⟩
  obtain ⟨t, HT⟩ : ∃ t, Hid (t = rcp (jn (L.map tl))) := ⟨_, rfl⟩
  rw [← HM.out, ← HT.out]
  refine (callsIn_wide (n := 5)).1 ?_
  refine callsIn_of_wp_marks Tryd.func21 rfl trivial ?_ rfl
  simp only [Tryd.ntmps21, List.size_toArray, List.length_cons, List.length_nil, Nat.reduceAdd, Nat.reduceSub, Array.replicate_succ, Array.replicate_zero, List.push_toArray, List.append_toArray, List.nil_append, List.cons_append]
  gi_wp2_with (refine ⟨trivial, ?_⟩; gi_at_call 29; refine (callsIn_wide.2 (joined_any _ _ _ _)).mono ?_; rintro e w' ⟨rfl, rfl⟩)
  obtain ⟨W0, hW0⟩ : ∃ W0, W0 = ((w.alloc (Obj.cells #[Value.pointer none, Value.slice none 0 0] 41)).alloc (Obj.cells #[Value.int IntKind.i64 0] 3)).alloc (Obj.cells #[Value.slice al L.length cl] 23) := ⟨_, rfl⟩
  rw [← hW0]
  have hs0 : W0.heap.size = w.heap.size + 3 := by rw [hW0]; simp
  have hB0 : Below w.heap.size w W0 := by rw [hW0]; exact (((Below.refl _ w).alloc (Nat.le_refl _) _).alloc (by simp) _).alloc (by simp; omega) _
  have b1 : BR W0.heap.size w.heap.size [] W0 := by
    have := BR.new w W0.heap.size (by omega)
    have h2 := (this.kept (World.grownBy_alloc _ (Obj.cells #[Value.int IntKind.i64 0] 3) none) (by simp) (by simp)).kept (World.grownBy_alloc _ (Obj.cells #[Value.slice al L.length cl] 23) none) (by simp) (by simp)
    rw [← hW0] at h2
    exact h2
  have b2 : Boxed W0 (w.heap.size + 1) 3 (.int .i64 0) := by
    have := (Boxed.new (w.alloc (Obj.cells #[Value.pointer none, Value.slice none 0 0] 41)) 3 (.int .i64 0)).alloc (Obj.cells #[Value.slice al L.length cl] 23)
    rw [World.size_alloc, ← hW0] at this
    exact this
  have b3 : Boxed W0 (w.heap.size + 1 + 1) 23 (.slice al L.length cl) := by
    have := Boxed.new ((w.alloc (Obj.cells #[Value.pointer none, Value.slice none 0 0] 41)).alloc (Obj.cells #[Value.int IntKind.i64 0] 3)) 23 (.slice al L.length cl)
    rw [World.size_alloc, World.size_alloc, ← hW0] at this
    exact this
  obtain ⟨A, hA⟩ : ∃ A : Nat → Prop, A = fun k => k = w.heap.size ∨ k = w.heap.size + 1 := ⟨_, rfl⟩
  have hE : ∀ W', Kf A W0.heap.size W0 W' → Ev L al cl (w.heap.size + 1 + 1) W' := by
    intro W' h
    refine ⟨(h.2 _ (by omega) (by rw [hA]; omega)).trans b3, fun k hk => ?_⟩
    obtain ⟨b, off, e, h1, h2⟩ := HL.out k hk
    have hs := h.1
    exact ⟨b, off, e, by omega, (h.cell b _ (by omega) (by rw [hA]; omega)).trans ((hB0.cell (p := ⟨b, off + k, none⟩) h1).trans h2)⟩
  have hmx : Tryd.prog.follows .mixedOrders = true := by kernel_rfl
  have hseq := joined_seq 4 (by decide) A W0.heap.size (w.heap.size + 1 + 1) L al cl HZ.out.len HZ.out.each W0 (Nat.le_refl _) hE
  clear hE hW0 HL
  refine range_of rfl (by decide) (gf := 37) (lb := #[.pointer (some ⟨w.heap.size + 1 + 1, 0, none⟩)]) rfl trivial (enters_of Tryd.func37 (by kernel_rfl) rfl)
    hseq (fun h k => Kf.t h k) (fun W l o' hl => Kf.b W l o' hl) (fun X Y e => e ▸ KeepsFrom.refl _ _) (fun _ => rfl)
    (RcI w W0.heap.size) (fun _ _ _ => False) (RcI.own w _ _ (by omega)) (fun _ _ _ _ _ hs _ _ => hs) (fun pre X Y h e => e ▸ h) (fun _ _ _ _ h _ => h)
    ⟨b1, b2, hB0, Nat.le_refl _⟩
    (fun x => { tmps := #[.slice al L.length cl, undef, .string ⟨#[]⟩, .int .i64 0, .pointer (some ⟨w.heap.size, 0, none⟩), .pointer (some ⟨w.heap.size + 1, 0, none⟩), .string x, .slice al L.length cl, .func (.func 37) #[] #[.pointer (some ⟨w.heap.size + 1 + 1, 0, none⟩)], .string x, undef, undef, undef, undef, undef, undef, undef, undef, undef, undef], defers := [] }) ?assign ?body ?done ?stop
  case assign =>
    intro l x W K hK
    gi_wp2
    exact hK
  case body =>
    rintro l pre x W hpf ⟨hbld, hcnt, hbel, hroom⟩
    have hc := hcnt.cell
    have hx1 : x.size ≤ 1000000 := by rw [hpf.at_]; exact HZ.out.each _
    have hx2 : (rcp (pre.map tl)).length ≤ 1000000 := by
      have h1 := rcp_le (pre.map tl)
      have h2 := take_sum L pre.length
      rw [← hpf.beg] at h2
      have := HZ.out.sum
      omega
    have hx3 := untab_le (tl x)
    rw [tl_len] at hx3
    have htr : ∀ w, Calls Tryd.prog 31 #[.string x, .string ⟨#[9]⟩] w fun e w' => e = .returned (.string (mk (untab (tl x)))) ∧ w' = w := fun w => Tryd.strings_TrimPrefix x ⟨#[9]⟩ w
    have hst := rcp_snoc (pre.map tl) (tl x)
    rw [List.length_map, ← List.map_singleton, ← List.map_append] at hst
    have hml : pre.length < 1000000 := by have := hpf.lt; have := HZ.out.len; omega
    have hR1 : w.heap.size + 1 < W0.heap.size := by omega
    obtain ⟨y, hy⟩ : ∃ y, y = mk (untab (tl x)) := ⟨_, rfl⟩
    have hyt : tl y = untab (tl x) := by rw [hy, tl_mk]
    have hys : y.size ≤ 1000000 := by rw [← tl_len, hyt]; omega
    rw [← hy] at htr
    have hHst := hide' hst
    have HYT := hide' hyt
    clear hy hyt hst hx3 hpf b1 b2 b3 hB0 hseq
    by_cases hm : pre.length = 0
    · have HST : Hid (rcp (pre.map tl) ++ tl y = rcp ((pre ++ [x]).map tl)) := by
        show _ = _
        rw [hHst.out, HYT.out]; unfold rstep; rw [if_pos hm]
      have d1 : decide ((0 : Int) < (pre.length : Int)) = false := by simp [hm]
      have d2 : ¬ (0 : Int) < (pre.length : Int) := by omega
      have d3 : decide (0 < pre.length) = false := by simp [hm]
      have d4 : ¬ 0 < pre.length := by omega
      have HM := hide' hm
      clear hm
      gi_wp2_with (first | (refine ⟨trivial, ?_⟩; gi_at_call 31; refine (CallsIn.inRound l (callsIn_wide.2 (htr _))).mono ?_; rintro e w' ⟨rfl, rfl⟩) | (refine ⟨trivial, ?_⟩; gi_at_call 17; refine (CallsIn.inRound l (callsIn_wide.2 (wstr_any W0.heap.size w.heap.size (rcp (pre.map tl)) y _ hbld (by omega) hroom))).mono ?_))
      rintro e W2 ⟨rfl, hb2, hw2⟩
      rw [HST.out] at hb2
      obtain ⟨hc2, g1, g2, g3⟩ := rc_end hA hR1 hcnt hbel hroom hb2 hw2
      have hc3 := hc2.cell
      have hf3 := hc2.frozen
      clear hb2 hw2 hA
      gi_wp2
      exact ⟨g1, g2, g3⟩
    · have HST : Hid ((rcp (pre.map tl) ++ [10]) ++ tl y = rcp ((pre ++ [x]).map tl)) := by
        show _ = _
        rw [hHst.out, HYT.out]; unfold rstep; rw [if_neg hm]
      have d1 : decide ((0 : Int) < (pre.length : Int)) = true := by simp; omega
      have d2 : (0 : Int) < (pre.length : Int) := by omega
      have d3 : decide (0 < pre.length) = true := by simp; omega
      have d4 : 0 < pre.length := by omega
      gi_wp2_with (refine ⟨trivial, ?_⟩; gi_at_call 30; refine (CallsIn.inRound l (callsIn_wide.2 (wbyte_br W0.heap.size w.heap.size (rcp (pre.map tl)) 10 10 rfl _ hbld (by omega) hroom))).mono ?_)
      rintro e W1 ⟨rfl, hb1, hw1⟩
      have hroom1 : W0.heap.size ≤ W1.heap.size := Nat.le_trans hroom hw1.below.size
      have hlen1 : (rcp (pre.map tl) ++ [10]).length + y.size ≤ 140737488355328 := by simp; omega
      gi_wp2_with (first | (refine ⟨trivial, ?_⟩; gi_at_call 31; refine (CallsIn.inRound l (callsIn_wide.2 (htr _))).mono ?_; rintro e w' ⟨rfl, rfl⟩) | (refine ⟨trivial, ?_⟩; gi_at_call 17; refine (CallsIn.inRound l (callsIn_wide.2 (wstr_any W0.heap.size w.heap.size (rcp (pre.map tl) ++ [10]) y _ hb1 hlen1 hroom1))).mono ?_))
      rintro e W2 ⟨rfl, hb2, hw2⟩
      rw [HST.out] at hb2
      obtain ⟨hc2, g1, g2, g3⟩ := rc_end hA hR1 hcnt hbel hroom hb2 (hw1.trans hw2)
      have hc3 := hc2.cell
      have hf3 := hc2.frozen
      clear hb2 hw2 hA
      gi_wp2
      exact ⟨g1, g2, g3⟩
  case done =>
    rintro D ys W hD hys ⟨hbld, hcnt, hbel, hroom⟩ hK
    have hc := hcnt.cell
    have hn : ys.length = (jn (L.map tl)).length := by rw [← hys, List.length_map]
    rw [hys] at hbld
    rw [hn, ← HM.out] at hcnt hc
    rw [← HT.out] at hbld
    have hKD := hK
    clear hn hys b1 b2 b3 hB0 hseq hA hK
    gi_wp2
    refine wpIn_region_any hmx ?_
    change wpAnyIn _ _ _ _ _ _ _ _ _ (World.drew _)
    refine wpAnyIn_ready (rs := [0, 1]) (by kernel_rfl) (by simp) ?_
    refine AllReadyIn.cons rfl (fun K hK => ?_) (AllReadyIn.cons rfl (fun K hK => ?_) AllReadyIn.nil)
    · go_simp
      refine ⟨trivial, ?_⟩
      refine (callsIn_wide.2 (bstr_any W0.heap.size w.heap.size t _ (hbld.kept (w' := W.drew) (row := none) ⟨rfl, rfl, rfl, Nat.le_refl _, fun _ _ _ => rfl⟩ (by simp) (by simp)) hroom)).mono ?_
      rintro e W1 ⟨rfl, hb1, hk1⟩
      have hc1 : W1.cell? ⟨w.heap.size + 1, 0, none⟩ = some (.int .i64 m) := (hb1.cell (p := ⟨w.heap.size + 1, 0, none⟩) (by simp; omega)).trans hc
      refine hK _ _ ?_
      clear hK K
      refine wpAnyIn_ready (rs := [1, 2]) (by kernel_rfl) (by simp) ?_
      refine AllReadyIn.cons rfl (fun K hK => ?_) (AllReadyIn.cons rfl (fun K hK => ?_) AllReadyIn.nil)
      · go_simp
        refine hK _ _ ?_
        clear hK K
        refine wpAnyIn_ready (rs := [2]) (by kernel_rfl) (by simp) ?_
        refine AllReadyIn.cons rfl (fun K hK => ?_) AllReadyIn.nil
        go_simp
        refine hK _ _ ?_
        clear hK K
        refine wpAnyIn_ready (rs := [3]) (by kernel_rfl) (by simp) ?_
        refine AllReadyIn.cons rfl (fun K hK => ?_) AllReadyIn.nil
        go_simp
        refine hK _ _ ?_
        clear hK K
        refine wpAnyIn_done (by kernel_rfl) ?_ _
        have hK1 : W1.heap[D]? = some (.deferred (some [])) := hk1.same D _ hKD rfl
        have hbe : Below w.heap.size w W1 := hbel.trans ((Below.refl _ W).drew.trans (hb1.mono (by omega)))
        gi_wp2
        refine ⟨by simp, .inl ⟨_, _, rfl, run_takeDeferred hK1, ?_⟩⟩
        exact ⟨_, results_tmp2 rfl _ _ _, rfl, hbe.trans (belowK_b (w := W0) (by omega) W1 D _ _ hD hK1 rfl rfl)⟩
      · go_simp
        refine hK _ _ ?_
        clear hK K
        refine wpAnyIn_ready (rs := [1]) (by kernel_rfl) (by simp) ?_
        refine AllReadyIn.cons rfl (fun K hK => ?_) AllReadyIn.nil
        go_simp
        refine hK _ _ ?_
        clear hK K
        refine wpAnyIn_ready (rs := [3]) (by kernel_rfl) (by simp) ?_
        refine AllReadyIn.cons rfl (fun K hK => ?_) AllReadyIn.nil
        go_simp
        refine hK _ _ ?_
        clear hK K
        refine wpAnyIn_done (by kernel_rfl) ?_ _
        have hK1 : W1.heap[D]? = some (.deferred (some [])) := hk1.same D _ hKD rfl
        have hbe : Below w.heap.size w W1 := hbel.trans ((Below.refl _ W).drew.trans (hb1.mono (by omega)))
        gi_wp2
        refine ⟨by simp, .inl ⟨_, _, rfl, run_takeDeferred hK1, ?_⟩⟩
        exact ⟨_, results_tmp2 rfl _ _ _, rfl, hbe.trans (belowK_b (w := W0) (by omega) W1 D _ _ hD hK1 rfl rfl)⟩
    · go_simp
      refine hK _ _ ?_
      clear hK K
      refine wpAnyIn_ready (rs := [0]) (by kernel_rfl) (by simp) ?_
      refine AllReadyIn.cons rfl (fun K hK => ?_) AllReadyIn.nil
      go_simp
      refine ⟨trivial, ?_⟩
      refine (callsIn_wide.2 (bstr_any W0.heap.size w.heap.size t _ (hbld.kept (w' := W.drew) (row := none) ⟨rfl, rfl, rfl, Nat.le_refl _, fun _ _ _ => rfl⟩ (by simp) (by simp)) hroom)).mono ?_
      rintro e W1 ⟨rfl, hb1, hk1⟩
      have hc1 : W1.cell? ⟨w.heap.size + 1, 0, none⟩ = some (.int .i64 m) := (hb1.cell (p := ⟨w.heap.size + 1, 0, none⟩) (by simp; omega)).trans hc
      refine hK _ _ ?_
      clear hK K
      refine wpAnyIn_ready (rs := [2]) (by kernel_rfl) (by simp) ?_
      refine AllReadyIn.cons rfl (fun K hK => ?_) AllReadyIn.nil
      go_simp
      refine hK _ _ ?_
      clear hK K
      refine wpAnyIn_ready (rs := [3]) (by kernel_rfl) (by simp) ?_
      refine AllReadyIn.cons rfl (fun K hK => ?_) AllReadyIn.nil
      go_simp
      refine hK _ _ ?_
      clear hK K
      refine wpAnyIn_done (by kernel_rfl) ?_ _
      have hK1 : W1.heap[D]? = some (.deferred (some [])) := hk1.same D _ hKD rfl
      have hbe : Below w.heap.size w W1 := hbel.trans ((Below.refl _ W).drew.trans (hb1.mono (by omega)))
      gi_wp2
      refine ⟨by simp, .inl ⟨_, _, rfl, run_takeDeferred hK1, ?_⟩⟩
      exact ⟨_, results_tmp2 rfl _ _ _, rfl, hbe.trans (belowK_b (w := W0) (by omega) W1 D _ _ hD hK1 rfl rfl)⟩
  case stop =>
    rintro D c pre W _ _ h _
    exact h.elim
end Go.Proofs.YteleakbefebabaaDoor
