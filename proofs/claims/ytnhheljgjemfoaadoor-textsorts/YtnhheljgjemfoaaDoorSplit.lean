/- The contract of text.Split: it hands back a new list of the words of its text. -/
import Derived.Test.YtnhheljgjemfoaaDoorIter
namespace Go.Proofs.YtnhheljgjemfoaaDoor
open Go.RowKit Go.Shelf
attribute [local go_sem] Oper.semAt_some

/-- append onto a row of the call's own, as one step of a region that draws its order, inside a fence -/
theorem stepIn_append_own {F : Fence} {n : Nat} {P : Program} (w : World) {ops : Array Oper} {o : Oper} {a : Act} {K : Act → World → Prop} {Q : Exit → Act → World → Prop} {E : Prop}
    (hg : o.guard = none) (s x : Operand) (t : TypeId) (hop : o.op = Op.call { callee := Callee.builtin Builtin.append, args := #[s, x], argTypes := #[t, t] })
    (base : Nat) (e : TypeId) (i : TypeInfo) (z : Value) (size bytes : Nat) (h1 : P.underlying t = some (.slice e)) (h2 : P.info? e = some i) (h3 : i.zero = some z) (h4 : i.size = size) (h5 : i.bytes = bytes) (h6 : z.cells.size = size) (h7 : 0 < size)
    (v : Value) (k : Nat) (xs : List Value) (hs : a.eval s = v) (hown : w.ownsRow base e size v k xs) (ad : Addr) (m c : Nat) (news : List Value) (hx : a.eval x = .slice (some ad) m c) (hn : news.length = m * size)
    (hc : ∀ j u, news[j]? = some u → w.cell? (ad.add j) = some u) (h1c : ∀ u ∈ news, u.oneCell' = true) (b1 : k + m ≤ maxLen) (b2 : (k + m) * bytes ≤ 140737488355328) (b3 : base ≤ w.heap.size)
    (hK : ∀ v' w', w'.ownsRow base e size v' (k + m) (xs ++ news) → w.grownBy w' v.ownBlock → (v' = .slice none 0 0 ↔ v = .slice none 0 0 ∧ m = 0) → K (a.put o.dst v') w') :
    if Region.wanted o (yielded ops a.tmps) = true then Oper.wpIn F n P o a w K Q else E := by
  have hw : Region.wanted o (yielded ops a.tmps) = true := by simp [Region.wanted, hg]
  rw [if_pos hw]
  obtain ⟨v', w', hrun, r1, r2, r3⟩ := run_append_own (P := P) w base t o.type e i z size bytes h1 h2 h3 h4 h5 h6 h7 v k xs hown ad m c news hn hc h1c b1 b2 b3
  unfold Oper.wpIn
  refine ⟨?_, ?_⟩
  · simp [Oper.about, hop, resolve, Target.leads, Sem.run_pure]
  · rw [Oper.semAt_plain F _ _ (by rw [hop]; intro c hc'; cases hc')]
    simp [execOp, hop, resolve, invoke, builtin, hs, hx, hrun, Result.andThen]
    exact hK v' w' r1 r2 r3

theorem info9 : (Tryd.prog.info? 9).map (fun i : TypeInfo => (i.zero, i.size, i.bytes)) = some (some (.string ⟨#[]⟩), 1, 16) := by kernel_rfl
def encW (x : Wd) : Value := .string x.1

theorem below_grown {w w' : World} (h : Below w.heap.size w w') : w.grownBy w' none := ⟨h.os, h.tape, h.output, h.size, fun k hk _ => h.block k hk⟩
theorem keeps_below {w w' : World} (h : Below w.heap.size w w') : KeepsOthers w w' := ⟨h.size, fun k _ hk _ => (h.block k (Array.getElem?_eq_some_iff.1 hk).1).trans hk⟩
theorem row_below {B : Nat} {e : TypeId} {m k : Nat} {v : Value} {xs : List Value} {w w' : World} (h : w.ownsRow B e m v k xs) (hb : Below w.heap.size w w') : w'.ownsRow B e m v k xs := h.kept (below_grown hb) (by
  rcases h.2 with ⟨rfl, _⟩ | ⟨g, cap, cur, rfl, _⟩
  · exact .inl rfl
  · exact .inr (by simp [Value.ownBlock]))
theorem box_below {W W' : World} {B : Nat} {t : TypeId} {v : Value} (h : Boxed W B t v) (hb : Below W.heap.size W W') : Boxed W' B t v := (hb.block B h.lt).trans h
theorem row_not {W : World} {base : Nat} {e : TypeId} {m k : Nat} {v : Value} {xs : List Value} (h : W.ownsRow base e m v k xs) {B : Nat} (hB : B < base) : some B ≠ v.ownBlock := by
  rcases h.2 with ⟨rfl, _⟩ | ⟨g, cap, cur, rfl, hg, _⟩
  · simp [Value.ownBlock]
  · simp [Value.ownBlock]; omega

theorem row_mono {W : World} {base base' : Nat} {e : TypeId} {m k : Nat} {v : Value} {xs : List Value} (h : W.ownsRow base e m v k xs) (hb : base' ≤ base) : W.ownsRow base' e m v k xs := by
  refine ⟨h.1, ?_⟩
  rcases h.2 with h0 | ⟨g, cap, cur, h1, h2, h3⟩
  · exact .inl h0
  · exact .inr ⟨g, cap, cur, h1, Nat.le_trans hb h2, h3⟩

/-- what holds between two rounds of Split -/
def SpI (w : World) (s : ByteArray) (pre : List Wd) (W : World) : Prop :=
  (∃ v, Boxed W w.heap.size 22 v ∧ W.ownsRow (w.heap.size + 2) 9 1 v pre.length (pre.map encW) ∧ True) ∧ Below w.heap.size w W ∧ Boxed W (w.heap.size + 1) 9 (.string s)

/-- the end of a round: behind the copy, the append and the store -/
theorem split_end {w W w1 w2 : World} {s : ByteArray} {pre : List Wd} {x : Wd} {v v' : Value} {tmp : Obj} (B : Nat)
    (hv : Boxed W w.heap.size 22 v) (hrow : W.ownsRow (w.heap.size + 2) 9 1 v pre.length (pre.map encW)) (hB : Below w.heap.size w W) (hN : Boxed W (w.heap.size + 1) 9 (.string s))
    (hb1 : Below W.heap.size W w1) (hown' : w2.ownsRow (w.heap.size + 2) 9 1 v' (pre.length + 1) (pre.map encW ++ [encW x])) (hgrow : (w1.alloc tmp).grownBy w2 v.ownBlock) :
    Boxed w2 w.heap.size 22 v ∧ KeepsFrom B W (w2.setCell ⟨w.heap.size, 0, none⟩ v') ∧ KpB (w.heap.size + 1) W (w2.setCell ⟨w.heap.size, 0, none⟩ v') ∧ SpI w s (pre ++ [x]) (w2.setCell ⟨w.heap.size, 0, none⟩ v') := by
  have hv1 := box_below hv hb1
  have hrow1 := row_below hrow hb1
  have hv2 : Boxed w2 w.heap.size 22 v := (hv1.alloc tmp).kept hgrow (row_not hrow1 (by omega))
  have hk : KpB (w.heap.size + 1) W (w2.setCell ⟨w.heap.size, 0, none⟩ v') := fun u hu => (((box_below hu hb1).alloc tmp).kept hgrow (row_not hrow1 (by omega))).other (by omega) v'
  have hks : KeepsOthers W (w2.setCell ⟨w.heap.size, 0, none⟩ v') := by
    refine (((keeps_below hb1).trans (KeepsOthers.alloc w1 tmp)).trans (KeepsOthers.of_grownBy hgrow fun j _ ej hj => ?_)).trans (KeepsOthers.setCell _ _ _)
    rcases (hrow1.alloc tmp).2 with ⟨rfl, _⟩ | ⟨g, cap, cur, rfl, _, hgb, _⟩
    · simp [Value.ownBlock] at ej
    · obtain rfl : g = j := by simpa [Value.ownBlock] using ej
      rw [hgb] at hj; cases hj; rfl
  have hsz := hN.lt
  have hb2 : Below w.heap.size w (w2.setCell ⟨w.heap.size, 0, none⟩ v') := by
    have hs1 := hb1.size
    refine (((hB.trans (hb1.mono hB.size)).alloc (by omega) tmp).grown hgrow (by simp; omega) fun j ej => ?_).setCell (p := ⟨w.heap.size, 0, none⟩) (Nat.le_refl _) v'
    rcases hrow1.2 with ⟨rfl, _⟩ | ⟨g, cap, cur, rfl, hb, _, _⟩
    · simp [Value.ownBlock] at ej
    · obtain rfl : g = j := by simpa [Value.ownBlock] using ej
      omega
  refine ⟨hv2, hks.from _, hk, ⟨v', hv2.set v', ?_, trivial⟩, hb2, hk _ hN⟩
  have := hown'.kept (grownBy_setCell' w2 w.heap.size v') (.inr (row_not hown' (by omega)).symm)
  simpa using this

set_option maxRecDepth 100000 in
set_option maxHeartbeats 2000000 in
theorem split_any (s : ByteArray) (hs : s.size ≤ 1000000) (w : World) :
    Calls Tryd.prog 16 #[.string s] w fun e W' => ∃ (v : Value) (ys : List Wd), e = .returned v ∧ ys.map bytesOf = words s.data.toList ∧ W'.ownsRow w.heap.size 9 1 v ys.length (ys.map encW) ∧ Below w.heap.size w W' := by
  obtain ⟨i0, hi, hz0, hz1, hz2⟩ := info_parts info9
  refine (callsIn_wide (n := 5)).1 ?_
  refine callsIn_of_wp_marks Tryd.func16 rfl trivial ?_ rfl
  simp only [Tryd.ntmps16, List.size_toArray, List.length_cons, List.length_nil, Nat.reduceAdd, Nat.reduceSub, Array.replicate_succ, Array.replicate_zero, List.push_toArray, List.append_toArray, List.nil_append, List.cons_append]
  gi_wp2_with (refine ⟨trivial, ?_⟩; gi_at_call 27; refine (callsIn_wide.2 (words_calls _ _)).mono ?_; rintro e w' ⟨rfl, rfl⟩)
  have bO := Boxed.new w 22 (.slice none 0 0)
  have bN := Boxed.new (w.alloc (.cells #[.slice none 0 0] 22)) 9 (.string s)
  rw [World.size_alloc] at bN
  have hB0 : Below w.heap.size w ((w.alloc (.cells #[.slice none 0 0] 22)).alloc (.cells #[.string s] 9)) := ((Below.refl _ w).alloc (Nat.le_refl _) _).alloc (by simp) _
  refine wpIn_rangeFunc_ownG rfl (by decide) (gf := 36) (lb := #[.pointer (some ⟨w.heap.size + 1, 0, none⟩)]) rfl trivial (enters_of Tryd.func36 (by kernel_rfl) rfl)
    (words_stops 4 (by decide) (w.heap.size + 1) s hs _ bN) (fun h k => KpB.t h k) (fun W l o o' _ h ho _ => KpB.b W l o o' h ho) (Below.refl _ _) (fun _ => rfl)
    (SpI w s) (fun _ _ _ => False)
    (OwnFrom.and (Own.from (holdsRow_own (w.heap.size + 2) w.heap.size 22 9 1 (fun pre : List Wd => pre.length) (fun pre => pre.map encW) (fun _ _ => True)) _) (OwnFrom.and (ownFrom_below (Nat.le_refl _) (by simp; omega)) (Own.from (boxed_own _ _ _) _)))
    (fun _ _ _ _ _ hs _ _ => hs)
    ⟨⟨_, bO.alloc _, World.ownsRow_nil _ _ _ _, trivial⟩, hB0, bN⟩
    (fun x => { tmps := #[.string s, undef, .slice none 0 0, .pointer (some ⟨w.heap.size, 0, none⟩), .string x.1, .string s, .func (.func 36) #[] #[.pointer (some ⟨w.heap.size + 1, 0, none⟩)], .string x.1, undef, undef, undef, undef, undef, undef], defers := [] }) ?assign ?body ?done ?stop
  case assign =>
    intro l x W K hK
    gi_wp2
    exact hK
  case body =>
    rintro l pre x W ⟨⟨v, hv, hrow, _⟩, hB, hN⟩ hlt
    have hc := hv.cell
    have hmx : Tryd.prog.follows .mixedOrders = true := by kernel_rfl
    gi_wp2
    refine wpIn_region_any hmx ?_
    change wpAnyIn _ _ _ _ _ _ _ _ _ (World.drew _)
    refine wpAnyIn_ready (rs := [0, 1]) (by kernel_rfl) (by simp) ?_
    refine AllReadyIn.cons rfl (fun K hK => ?_) (AllReadyIn.cons rfl (fun K hK => ?_) AllReadyIn.nil)
    go_simp
    refine hK _ _ ?_
    clear hK K
    refine wpAnyIn_ready (rs := [1]) (by kernel_rfl) (by simp) ?_
    refine AllReadyIn.cons rfl (fun K hK => ?_) AllReadyIn.nil
    go_simp
    refine hK _ _ ?_
    clear hK K
    refine wpAnyIn_ready (rs := [2]) (by kernel_rfl) (by simp) ?_
    refine AllReadyIn.cons rfl (fun K hK => ?_) AllReadyIn.nil
    go_simp
    refine ⟨trivial, ?_⟩
    refine (CallsIn.inRound l (callsIn_wide.2 (clone_any x.1 _ (by have := x.2; omega)))).mono ?_
    rintro e w1 ⟨rfl, hb⟩
    have hb1 : Below W.heap.size W w1 := (Below.refl _ W).drew.trans hb
    clear hb
    have hc1 := (box_below hv hb1).cell
    have hc2 := fun o => ((box_below hv hb1).alloc o).cell
    refine hK _ _ ?_
    clear hK K
    refine wpAnyIn_ready (rs := [3]) (by kernel_rfl) (by simp) ?_
    refine AllReadyIn.cons rfl (fun K hK => ?_) AllReadyIn.nil
    go_simp
    refine hK _ _ ?_
    clear hK K
    rotate_left
    go_simp
    refine hK _ _ ?_
    clear hK K
    refine wpAnyIn_ready (rs := [0, 2]) (by kernel_rfl) (by simp) ?_
    refine AllReadyIn.cons rfl (fun K hK => ?_) (AllReadyIn.cons rfl (fun K hK => ?_) AllReadyIn.nil)
    go_simp
    refine hK _ _ ?_
    clear hK K
    refine wpAnyIn_ready (rs := [2]) (by kernel_rfl) (by simp) ?_
    refine AllReadyIn.cons rfl (fun K hK => ?_) AllReadyIn.nil
    go_simp
    refine ⟨trivial, ?_⟩
    refine (CallsIn.inRound l (callsIn_wide.2 (clone_any x.1 _ (by have := x.2; omega)))).mono ?_
    rintro e w1 ⟨rfl, hb⟩
    have hb1 : Below W.heap.size W w1 := (Below.refl _ W).drew.trans hb
    clear hb
    have hc1 := (box_below hv hb1).cell
    have hc2 := fun o => ((box_below hv hb1).alloc o).cell
    refine hK _ _ ?_
    clear hK K
    refine wpAnyIn_ready (rs := [3]) (by kernel_rfl) (by simp) ?_
    refine AllReadyIn.cons rfl (fun K hK => ?_) AllReadyIn.nil
    go_simp
    refine hK _ _ ?_
    clear hK K
    rotate_left
    go_simp
    refine ⟨trivial, ?_⟩
    refine (CallsIn.inRound l (callsIn_wide.2 (clone_any x.1 _ (by have := x.2; omega)))).mono ?_
    rintro e w1 ⟨rfl, hb⟩
    have hb1 : Below W.heap.size W w1 := (Below.refl _ W).drew.trans hb
    clear hb
    have hc1 := (box_below hv hb1).cell
    have hc2 := fun o => ((box_below hv hb1).alloc o).cell
    refine hK _ _ ?_
    clear hK K
    refine wpAnyIn_ready (rs := [0, 3]) (by kernel_rfl) (by simp) ?_
    refine AllReadyIn.cons rfl (fun K hK => ?_) (AllReadyIn.cons rfl (fun K hK => ?_) AllReadyIn.nil)
    go_simp
    refine hK _ _ ?_
    clear hK K
    refine wpAnyIn_ready (rs := [3]) (by kernel_rfl) (by simp) ?_
    refine AllReadyIn.cons rfl (fun K hK => ?_) AllReadyIn.nil
    go_simp
    refine hK _ _ ?_
    clear hK K
    rotate_left
    go_simp
    refine hK _ _ ?_
    clear hK K
    refine wpAnyIn_ready (rs := [0]) (by kernel_rfl) (by simp) ?_
    refine AllReadyIn.cons rfl (fun K hK => ?_) AllReadyIn.nil
    go_simp
    refine hK _ _ ?_
    clear hK K
    all_goals
      have hpb : pre.length + 1 ≤ maxLen := by unfold maxLen; omega
      have hbb : (pre.length + 1) * 16 ≤ 140737488355328 := by omega
      have h2b : w.heap.size + 2 ≤ (w1.alloc (Obj.cells #[Value.string x.1] 9)).heap.size := by have := hN.lt; have := hb1.size; simp; omega
      refine wpAnyIn_ready (rs := [4]) (by kernel_rfl) (by simp) ?_
      refine AllReadyIn.cons rfl (fun K hK => ?_) AllReadyIn.nil
      refine stepIn_append_own (w1.alloc (Obj.cells #[Value.string x.1] 9)) rfl (.tmp 8) (.tmp 11) 22 rfl (w.heap.size + 2) 9 i0 (.string ⟨#[]⟩) 1 16 Tryd.underlying22 hi hz0 hz1 hz2 rfl (by decide) v pre.length (pre.map encW) rfl ((row_below hrow hb1).alloc _) ⟨w1.heap.size, 0, none⟩ 1 1 [encW x] rfl rfl (cell_one_new _ _ _) (by simp [Value.oneCell', encW]) hpb hbb h2b ?_
      intro v' w2 hown' hgrow _
      obtain ⟨g', cap', rfl⟩ := ownsRow_succ hown'
      obtain ⟨hv2, hkf, hkp, hsp⟩ := split_end ((w.alloc (Obj.cells #[Value.slice none 0 0] 22)).alloc (Obj.cells #[Value.string s] 9)).heap.size hv hrow hB hN hb1 hown' hgrow
      have hc3 := hv2.cell
      have hf3 := hv2.frozen
      refine hK _ _ ?_
      clear hK K
      refine wpAnyIn_ready (rs := [5]) (by kernel_rfl) (by simp) ?_
      refine AllReadyIn.cons rfl (fun K hK => ?_) AllReadyIn.nil
      go_simp
      refine hK _ _ ?_
      clear hK K
      refine wpAnyIn_done (by kernel_rfl) ?_ _
      exact ⟨hkf, hkp, hsp⟩
  case done =>
    rintro D ys W hD hys ⟨⟨v, hv, hrow, _⟩, hB, hN⟩ hK
    have hc := hv.cell
    gi_wp2
    refine ⟨by simp, .inl ⟨_, _, rfl, run_takeDeferred hK, ?_⟩⟩
    exact ⟨_, results_tmp rfl _ _ _, v, ys, rfl, hys, row_mono (ownsRow_putObj hrow _ hK rfl) (by omega), hB.trans (belowK_b (w := w) (Nat.le_refl _) W D _ _ (by simp at hD; omega) hK rfl rfl)⟩
  case stop =>
    rintro D c pre W _ _ h _
    exact h.elim
end Go.Proofs.YtnhheljgjemfoaaDoor
