/- The contract of lines.Split: it hands back a new list of the lines of its text. -/
import Derived.Test.YteleakbefebabaaDoorLi
import Derived.Test.YteleakbefebabaaDoorBw
namespace Go.Proofs.YteleakbefebabaaDoor
open Go.RowKit Go.Shelf
attribute [local go_sem] Oper.semAt_some

/-- append onto a row of the call's own, as one step of a region that draws its order, inside a fence -/
theorem stepIn_append_own {F : Fence} {n : Nat} {P : Program} (w : World) {ops : Array Oper} {o : Oper} {a : Act} {K : Act → World → Prop} {Q : Exit → Act → World → Prop} {E : Prop}
    (hg : o.guard = none) (s x : Operand) (t : TypeId) (hop : o.op = Op.call { callee := Callee.builtin Builtin.append, args := #[s, x], argTypes := #[t, t] })
    (base : Nat) (e : TypeId) (i : TypeInfo) (z : Value) (size bytes : Nat) (h1 : P.underlying t = some (.slice e)) (h2 : P.info? e = some i) (h3 : i.zero = some z) (h4 : i.size = size) (h5 : i.bytes = bytes) (h6 : z.cells.size = size) (h7 : 0 < size)
    (v : Value) (k : Nat) (xs : List Value) (hs : a.eval s = v) (hown : w.ownsRow base e size v k xs) (ad : Addr) (m c : Nat) (news : List Value) (hx : a.eval x = .slice (some ad) m c) (hn : news.length = m * size)
    (hc : ∀ j u, news[j]? = some u → w.cell? (ad.add j) = some u) (h1c : ∀ u ∈ news, u.oneCell' = true) (b1 : k + m ≤ maxLen) (b2 : (k + m) * bytes ≤ 140737488355328) (b3 : base ≤ w.heap.size)
    (hK : ∀ v' w', w'.ownsRow base e size v' (k + m) (xs ++ news) → w.grownBy w' v.ownBlock → (v' = .slice none 0 0 ↔ v = .slice none 0 0 ∧ m = 0) → K (a.put o.dst v') w') :
    if Region.wanted o (yielded ops a.tmps) = true then Oper.wpIn F n P o a w K Q else E := by
  have hw : Region.wanted o (yielded ops a.tmps) = true := by simp [Region.wanted, hg]
  rw [if_pos hw]
  obtain ⟨v', w', hrun, r1, r2, r3⟩ := run_append_own (P := P) w base t o.type e i z size bytes h1 h2 h3 h4 h5 h6 h7 v k xs hown ad m c news hn hc h1c b1 b2 b3
  unfold Oper.wpIn
  refine ⟨?_, ?_⟩
  · simp [Oper.about, hop, resolve, Target.leads, Sem.run_pure]
  · rw [Oper.semAt_plain F _ _ (by rw [hop]; intro c hc'; cases hc')]
    simp [execOp, hop, resolve, invoke, builtin, hs, hx, hrun, Result.andThen]
    exact hK v' w' r1 r2 r3

theorem info9 : (Tryd.prog.info? 9).map (fun i : TypeInfo => (i.zero, i.size, i.bytes)) = some (some (.string ⟨#[]⟩), 1, 16) := by kernel_rfl
/-- what holds between two rounds of Split -/
structure SpI (w : World) (pre : List ByteArray) (W : World) : Prop where
  box : ∃ v, Boxed W w.heap.size 23 v ∧ W.ownsRow (w.heap.size + 2) 9 1 v pre.length (pre.map Value.string)
  below : Below w.heap.size w W
  room : w.heap.size + 2 ≤ W.heap.size
theorem SpI.own (w : World) (N : Nat) (hN : w.heap.size ≤ N) : OwnFrom N (SpI w) := fun s W W' row hs hg hr => by
  obtain ⟨⟨v, hv, hrow⟩, hb, hrm⟩ := hs
  refine ⟨⟨v, hv.kept hg (fun e => ?_), hrow.kept hg ?_⟩, hb.grown hg hb.size (fun k e => Nat.le_trans hN (hr k e).1), Nat.le_trans hrm hg.size⟩
  · obtain ⟨_, o, ho, hc⟩ := hr w.heap.size e.symm
    rw [show W.heap[w.heap.size]? = _ from hv] at ho; cases ho; cases hc
  · rcases hrow.2 with ⟨rfl, _⟩ | ⟨g, cap, cur, rfl, _, hgb, _⟩
    · exact .inl rfl
    · refine .inr fun e => ?_
      obtain ⟨_, o, ho, hc⟩ := hr g (by simpa [Value.ownBlock] using e.symm)
      rw [hgb] at ho; cases ho; cases hc
theorem row_below {B : Nat} {e : TypeId} {m k : Nat} {v : Value} {xs : List Value} {w w' : World} (h : w.ownsRow B e m v k xs) (hb : Below w.heap.size w w') : w'.ownsRow B e m v k xs := h.kept (row := none) ⟨hb.os, hb.tape, hb.output, hb.size, fun k hk _ => hb.block k hk⟩ (by
  rcases h.2 with ⟨rfl, _⟩ | ⟨g, cap, cur, rfl, _⟩
  · exact .inl rfl
  · exact .inr (by simp [Value.ownBlock]))
theorem box_below {W W' : World} {B : Nat} {t : TypeId} {v : Value} (h : Boxed W B t v) (hb : Below W.heap.size W W') : Boxed W' B t v := (hb.block B h.lt).trans h

/-- the end of a round: behind the copy, the append and the store -/
theorem split_end {w W w1 w2 : World} {pre : List ByteArray} {x : ByteArray} {v v' : Value} {tmp : Obj} (B : Nat)
    (hv : Boxed W w.heap.size 23 v) (hrow : W.ownsRow (w.heap.size + 2) 9 1 v pre.length (pre.map Value.string)) (hB : Below w.heap.size w W) (hrm : w.heap.size + 2 ≤ W.heap.size)
    (hb1 : Below W.heap.size W w1) (hown' : w2.ownsRow (w.heap.size + 2) 9 1 v' (pre.length + 1) (pre.map Value.string ++ [Value.string x])) (hgrow : (w1.alloc tmp).grownBy w2 v.ownBlock) :
    Boxed w2 w.heap.size 23 v ∧ KeepsFrom B W (w2.setCell ⟨w.heap.size, 0, none⟩ v') ∧ SpI w (pre ++ [x]) (w2.setCell ⟨w.heap.size, 0, none⟩ v') := by
  have hv1 := box_below hv hb1
  have hrow1 := row_below hrow hb1
  have hs1 := hb1.size
  have hv2 : Boxed w2 w.heap.size 23 v := (hv1.alloc tmp).kept hgrow (fun e => row_not hrow1 (by omega) e.symm)
  have hg3 := grownBy_setCell' w2 w.heap.size v'
  have hs2 : w1.heap.size + 1 ≤ w2.heap.size := by have := hgrow.size; simpa using this
  have hks : KeepsOthers W (w2.setCell ⟨w.heap.size, 0, none⟩ v') := by
    refine (((keeps_below hb1).trans (KeepsOthers.alloc w1 tmp)).trans (KeepsOthers.of_grownBy hgrow fun j _ ej hj => ?_)).trans (KeepsOthers.setCell _ _ _)
    rcases (hrow1.alloc tmp).2 with ⟨rfl, _⟩ | ⟨g, cap, cur, rfl, _, hgb, _⟩
    · simp [Value.ownBlock] at ej
    · obtain rfl : g = j := by simpa [Value.ownBlock] using ej
      rw [hgb] at hj; cases hj; rfl
  have hb2 : Below w.heap.size w (w2.setCell ⟨w.heap.size, 0, none⟩ v') := by
    refine (((hB.trans (hb1.mono hB.size)).alloc (by omega) tmp).grown hgrow (by simp; omega) fun j ej => ?_).setCell (p := ⟨w.heap.size, 0, none⟩) (Nat.le_refl _) v'
    rcases hrow1.2 with ⟨rfl, _⟩ | ⟨g, cap, cur, rfl, hb, _, _⟩
    · simp [Value.ownBlock] at ej
    · obtain rfl : g = j := by simpa [Value.ownBlock] using ej
      omega
  refine ⟨hv2, hks.from _, ⟨v', hv2.set v', ?_⟩, hb2, by have := hg3.size; omega⟩
  have := hown'.kept hg3 (.inr (row_not hown' (by omega)))
  simpa using this

set_option maxRecDepth 100000 in
set_option maxHeartbeats 2000000 in
theorem split_any (s : ByteArray) (hs : s.size ≤ 1000000) (w : World) :
    Calls Tryd.prog 7 #[.string s] w fun e W' => ∃ (v : Value) (ys : List ByteArray), e = .returned v ∧ ys.map tl = phys (tl s) ∧ W'.ownsRow w.heap.size 9 1 v ys.length (ys.map Value.string) ∧ Below w.heap.size w W' := by
  obtain ⟨i0, hi, hz0, hz1, hz2⟩ := info_parts info9
  refine (callsIn_wide (n := 5)).1 ?_
  refine callsIn_of_wp_marks Tryd.func7 rfl trivial ?_ rfl
  simp only [Tryd.ntmps7, List.size_toArray, List.length_cons, List.length_nil, Nat.reduceAdd, Nat.reduceSub, Array.replicate_succ, Array.replicate_zero, List.push_toArray, List.append_toArray, List.nil_append, List.cons_append]
  gi_wp2_with (refine ⟨trivial, ?_⟩; gi_at_call 14; refine (callsIn_wide.2 (linesOf_any _ _)).mono ?_; rintro e w' ⟨rfl, rfl⟩)
  have bO := Boxed.new w 23 (.slice none 0 0)
  have bN := Boxed.new (w.alloc (.cells #[.slice none 0 0] 23)) 9 (.string s)
  rw [World.size_alloc] at bN
  have hB0 : Below w.heap.size w ((w.alloc (.cells #[.slice none 0 0] 23)).alloc (.cells #[.string s] 9)) := ((Below.refl _ w).alloc (Nat.le_refl _) _).alloc (by simp) _
  have hmx : Tryd.prog.follows .mixedOrders = true := by kernel_rfl
  refine range_of rfl (by decide) (gf := 24) (lb := #[.pointer (some ⟨w.heap.size + 1, 0, none⟩)]) rfl trivial (enters_of Tryd.func24 (by kernel_rfl) rfl)
    (lines_seq 4 (by decide) (w.heap.size + 1) s hs _ bN) (fun _ _ => trivial) (fun _ _ _ _ => trivial) (fun X Y e => by obtain ⟨n, rfl⟩ := e; exact ⟨Nat.le_refl _, fun _ _ _ h _ => h⟩) (fun _ => rfl)
    (SpI w) (fun _ _ _ => False) (SpI.own w _ (by simp; omega)) (fun _ _ _ _ _ hs _ _ => hs)
    (fun pre X Y h e => by obtain ⟨n, rfl⟩ := e; exact SpI.own w w.heap.size (Nat.le_refl _) pre X _ none h ⟨rfl, rfl, rfl, Nat.le_refl _, fun _ _ _ => rfl⟩ (fun r e => by cases e)) (fun _ _ _ _ h _ => h)
    ⟨⟨_, bO.alloc _, World.ownsRow_nil _ _ _ _⟩, hB0, by simp⟩
    (fun x => { tmps := #[.string s, undef, .slice none 0 0, .pointer (some ⟨w.heap.size, 0, none⟩), .string x, .string s, .func (.func 24) #[] #[.pointer (some ⟨w.heap.size + 1, 0, none⟩)], .string x, undef, undef, undef, undef, undef, undef], defers := [] }) ?assign ?body ?done ?stop
  case assign =>
    intro l x W K hK
    gi_wp2
    exact hK
  case body =>
    rintro l pre x W ⟨hx1, hpl⟩ ⟨⟨v, hv, hrow⟩, hB, hrm⟩
    have hc := hv.cell
    gi_wp2
    refine wpIn_region_any hmx ?_
    change wpAnyIn _ _ _ _ _ _ _ _ _ (World.drew _)
    refine wpAnyIn_ready (rs := [0, 1]) (by kernel_rfl) (by simp) ?_
    refine AllReadyIn.cons rfl (fun K hK => ?_) (AllReadyIn.cons rfl (fun K hK => ?_) AllReadyIn.nil)
    go_simp
    refine hK _ _ ?_
    clear hK K
    refine wpAnyIn_ready (rs := [1]) (by kernel_rfl) (by simp) ?_
    refine AllReadyIn.cons rfl (fun K hK => ?_) AllReadyIn.nil
    go_simp
    refine hK _ _ ?_
    clear hK K
    refine wpAnyIn_ready (rs := [2]) (by kernel_rfl) (by simp) ?_
    refine AllReadyIn.cons rfl (fun K hK => ?_) AllReadyIn.nil
    go_simp
    refine ⟨trivial, ?_⟩
    refine (CallsIn.inRound l (callsIn_wide.2 (clone_any x _ (by omega)))).mono ?_
    rintro e w1 ⟨rfl, hb⟩
    have hb1 : Below W.heap.size W w1 := (Below.refl _ W).drew.trans hb
    clear hb
    have hc1 := (box_below hv hb1).cell
    have hc2 := fun o => ((box_below hv hb1).alloc o).cell
    refine hK _ _ ?_
    clear hK K
    refine wpAnyIn_ready (rs := [3]) (by kernel_rfl) (by simp) ?_
    refine AllReadyIn.cons rfl (fun K hK => ?_) AllReadyIn.nil
    go_simp
    refine hK _ _ ?_
    clear hK K
    rotate_left
    go_simp
    refine hK _ _ ?_
    clear hK K
    refine wpAnyIn_ready (rs := [0, 2]) (by kernel_rfl) (by simp) ?_
    refine AllReadyIn.cons rfl (fun K hK => ?_) (AllReadyIn.cons rfl (fun K hK => ?_) AllReadyIn.nil)
    go_simp
    refine hK _ _ ?_
    clear hK K
    refine wpAnyIn_ready (rs := [2]) (by kernel_rfl) (by simp) ?_
    refine AllReadyIn.cons rfl (fun K hK => ?_) AllReadyIn.nil
    go_simp
    refine ⟨trivial, ?_⟩
    refine (CallsIn.inRound l (callsIn_wide.2 (clone_any x _ (by omega)))).mono ?_
    rintro e w1 ⟨rfl, hb⟩
    have hb1 : Below W.heap.size W w1 := (Below.refl _ W).drew.trans hb
    clear hb
    have hc1 := (box_below hv hb1).cell
    have hc2 := fun o => ((box_below hv hb1).alloc o).cell
    refine hK _ _ ?_
    clear hK K
    refine wpAnyIn_ready (rs := [3]) (by kernel_rfl) (by simp) ?_
    refine AllReadyIn.cons rfl (fun K hK => ?_) AllReadyIn.nil
    go_simp
    refine hK _ _ ?_
    clear hK K
    rotate_left
    go_simp
    refine ⟨trivial, ?_⟩
    refine (CallsIn.inRound l (callsIn_wide.2 (clone_any x _ (by omega)))).mono ?_
    rintro e w1 ⟨rfl, hb⟩
    have hb1 : Below W.heap.size W w1 := (Below.refl _ W).drew.trans hb
    clear hb
    have hc1 := (box_below hv hb1).cell
    have hc2 := fun o => ((box_below hv hb1).alloc o).cell
    refine hK _ _ ?_
    clear hK K
    refine wpAnyIn_ready (rs := [0, 3]) (by kernel_rfl) (by simp) ?_
    refine AllReadyIn.cons rfl (fun K hK => ?_) (AllReadyIn.cons rfl (fun K hK => ?_) AllReadyIn.nil)
    go_simp
    refine hK _ _ ?_
    clear hK K
    refine wpAnyIn_ready (rs := [3]) (by kernel_rfl) (by simp) ?_
    refine AllReadyIn.cons rfl (fun K hK => ?_) AllReadyIn.nil
    go_simp
    refine hK _ _ ?_
    clear hK K
    rotate_left
    go_simp
    refine hK _ _ ?_
    clear hK K
    refine wpAnyIn_ready (rs := [0]) (by kernel_rfl) (by simp) ?_
    refine AllReadyIn.cons rfl (fun K hK => ?_) AllReadyIn.nil
    go_simp
    refine hK _ _ ?_
    clear hK K
    all_goals
      have hpb : pre.length + 1 ≤ maxLen := by unfold maxLen; omega
      have hbb : (pre.length + 1) * 16 ≤ 140737488355328 := by omega
      have h2b : w.heap.size + 2 ≤ (w1.alloc (Obj.cells #[Value.string x] 9)).heap.size := by have := hb1.size; simp; omega
      refine wpAnyIn_ready (rs := [4]) (by kernel_rfl) (by simp) ?_
      refine AllReadyIn.cons rfl (fun K hK => ?_) AllReadyIn.nil
      refine stepIn_append_own (w1.alloc (Obj.cells #[Value.string x] 9)) rfl (.tmp 8) (.tmp 11) 23 rfl (w.heap.size + 2) 9 i0 (.string ⟨#[]⟩) 1 16 Tryd.underlying23 hi hz0 hz1 hz2 rfl (by decide) v pre.length (pre.map Value.string) rfl ((row_below hrow hb1).alloc _) ⟨w1.heap.size, 0, none⟩ 1 1 [.string x] rfl rfl (cell_one_new _ _ _) (by simp [Value.oneCell']) hpb hbb h2b ?_
      intro v' w2 hown' hgrow _
      obtain ⟨g', cap', rfl⟩ := ownsRow_succ hown'
      obtain ⟨hv2, hkf, hsp⟩ := split_end ((w.alloc (Obj.cells #[Value.slice none 0 0] 23)).alloc (Obj.cells #[Value.string s] 9)).heap.size hv hrow hB hrm hb1 hown' hgrow
      have hc3 := hv2.cell
      have hf3 := hv2.frozen
      refine hK _ _ ?_
      clear hK K
      refine wpAnyIn_ready (rs := [5]) (by kernel_rfl) (by simp) ?_
      refine AllReadyIn.cons rfl (fun K hK => ?_) AllReadyIn.nil
      go_simp
      refine hK _ _ ?_
      clear hK K
      refine wpAnyIn_done (by kernel_rfl) ?_ _
      exact ⟨hkf, trivial, hsp⟩
  case done =>
    rintro D ys W hD hys ⟨⟨v, hv, hrow⟩, hB, hrm⟩ hK
    have hc := hv.cell
    gi_wp2
    refine ⟨by simp, .inl ⟨_, _, rfl, run_takeDeferred hK, ?_⟩⟩
    exact ⟨_, results_tmp rfl _ _ _, v, ys, rfl, hys, row_mono (ownsRow_putObj hrow _ hK rfl) (by omega), hB.trans (belowK_b (w := w) (Nat.le_refl _) W D _ _ (by simp at hD; omega) hK rfl rfl)⟩
  case stop =>
    rintro D c pre W _ _ h _
    exact h.elim
end Go.Proofs.YteleakbefebabaaDoor
