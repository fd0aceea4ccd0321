/- The contracts of pat.chosen and of the iterator that it hands back: it yields the words that stay, one by one. -/
import Derived.Test.YtbegdhbpcgflkaaShapes
namespace Go.Proofs.Ytbegdhbpcgflkaa
open Go.RowKit Go.Shelf
attribute [local go_sem] Oper.semAt_some

/-- a word as it is handed on: a text that is not too long to be copied -/
abbrev Wd := { x : ByteArray // x.size ≤ 1000000 }
/-- what a round must keep: every block below N but A -/
def Kf (A N : Nat) (W W' : World) : Prop := W.heap.size ≤ W'.heap.size ∧ ∀ k, k < N → k ≠ A → W'.heap[k]? = W.heap[k]?
theorem Kf.refl (A N : Nat) (W : World) : Kf A N W W := ⟨Nat.le_refl _, fun _ _ _ => rfl⟩
theorem Kf.t {A N : Nat} {X Y Z : World} (h : Kf A N X Y) (k : Kf A N Y Z) : Kf A N X Z := ⟨Nat.le_trans h.1 k.1, fun i hi hA => (k.2 i hi hA).trans (h.2 i hi hA)⟩
theorem Kf.b {A N : Nat} (W : World) (l : Nat) (o' : Obj) (hl : N ≤ l) : Kf A N W (W.putObj l o') := ⟨by simp, fun k hk _ => World.putObj_heap_other (by omega)⟩
theorem Kf.below {A N : Nat} {W W' : World} (h : Below W.heap.size W W') (hN : N ≤ W.heap.size) : Kf A N W W' := ⟨h.size, fun k hk _ => h.block k (by omega)⟩
theorem Kf.cell {A N : Nat} {W W' : World} (h : Kf A N W W') (b i : Nat) (hb : b < N) (hA : b ≠ A) : W'.cell? ⟨b, i, none⟩ = W.cell? ⟨b, i, none⟩ := by simp only [World.cell?, h.2 b hb hA]

/-- what the iterator reads: its three boxes, the words, the shapes -/
structure Ev (PS L : List ByteArray) (o : Bool) (al sp : Option Addr) (cl cs Bw Bm Bo B : Nat) (W : World) : Prop where
  words : Boxed W Bw 30 (.slice al L.length cl)
  test : Boxed W Bm 25 (.func (.func 28) #[.slice sp PS.length cs] #[])
  want : Boxed W Bo 4 (.bool (!o))
  txt : Txt W al L
  shp : Shp W B sp PS

theorem chosen_any (al : Option Addr) (n cl : Nat) (vs : Value) (o : Bool) (w : World) :
    Calls Try.prog 26 #[.slice al n cl, .func (.func 28) #[vs] #[], .bool o] w fun e w' => e = .returned (.func (.func 35) #[] #[.pointer (some ⟨w.heap.size, 0, none⟩), .pointer (some ⟨w.heap.size + 1, 0, none⟩), .pointer (some ⟨w.heap.size + 2, 0, none⟩)]) ∧
      w' = ((w.alloc (.cells #[.slice al n cl] 30)).alloc (.cells #[.func (.func 28) #[vs] #[]] 25)).alloc (.cells #[.bool o] 4) := by
  go_enter Try.func26, Try.ntmps26
  go_wp2
  go_ret
  exact ⟨rfl, rfl⟩

theorem pick_yes {PS L : List ByteArray} {o r y : Bool} {k : Nat} {x : ByteArray} {pre : List Wd} (hxs : x.size ≤ 1000000) (hw : pre.map (fun x => x.1) = flt PS o (L.take k)) (hx : x = L.getD k ⟨#[]⟩) (hr : r = ay PS x) (hy : y = !o) (h : (r == y) = true) (hk : k < L.length) :
    Hid ((pre ++ [(⟨x, hxs⟩ : Wd)]).map (fun x => x.1) = flt PS o (L.take (k + 1))) := by
  show _ = _
  rw [flt_yes PS o L k hk (by rw [← hx, ← hr]; rw [hy] at h; cases r <;> cases o <;> simp_all), List.map_append, hw, ← hx]
  rfl
theorem pick_no {PS L : List ByteArray} {o r y : Bool} {k : Nat} {x : ByteArray} {pre : List Wd} (hw : pre.map (fun x => x.1) = flt PS o (L.take k)) (hx : x = L.getD k ⟨#[]⟩) (hr : r = ay PS x) (hy : y = !o) (h : (r == y) = false) (hk : k < L.length) :
    Hid (pre.map (fun x => x.1) = flt PS o (L.take (k + 1))) := by
  show _ = _
  rw [flt_no PS o L k hk (by rw [← hx, ← hr]; rw [hy] at h; cases r <;> cases o <;> simp_all), hw]

set_option maxRecDepth 100000 in
set_option maxHeartbeats 2000000 in
theorem chosen1_in (n : Nat) (hn : 1 ≤ n) (l A N Bw Bm Bo B : Nat) (PS L : List ByteArray) (o : Bool) (al sp : Option Addr) (cl cs : Nat) (hp : PS.length ≤ 100000) (hl : L.length ≤ 100000) (hls : ∀ j, (L.getD j ⟨#[]⟩).size ≤ 1000000) (J Jx : List Wd → World → Prop)
    (hY : ∀ pre x W, J pre W → pre.length < L.length → YieldAt Fence.wide (n - 1) Try.prog l #[.string x.1] W fun e W' =>
      (e = .returned (.bool true) ∧ J (pre ++ [x]) W' ∧ Kf A N W W') ∨ (e = .returned (.bool false) ∧ Jx (pre ++ [x]) W'))
    (W : World) (hJ : AbidesFrom W.heap.size J) (hN : N ≤ W.heap.size) (hE : ∀ W', Kf A N W W' → Ev PS L o al sp cl cs Bw Bm Bo B W') (h0 : J [] W) :
    CallsIn Fence.wide n Try.prog 35 #[.func (.yield l) #[] #[], .pointer (some ⟨Bw, 0, none⟩), .pointer (some ⟨Bm, 0, none⟩), .pointer (some ⟨Bo, 0, none⟩)] W fun e W' => (∃ v, e = .returned v) ∧
      ((∃ ys : List Wd, ys.map (fun x => x.1) = flt PS o L ∧ J ys W') ∨ (∃ pre, True ∧ Jx pre W')) := by
  have HE := hide' hE
  have HLS := hide' hls
  have HY := hide' hY
  have HJA := hide' hJ
  have hc0 := (hE W (Kf.refl A N W)).words.cell
  have hmx : Try.prog.follows .mixedOrders = true := by kernel_rfl
  clear hE hls hY hJ
  refine callsIn_of_wp Try.func35 rfl trivial ?_ rfl
  simp only [Try.ntmps35, List.size_toArray, List.length_cons, List.length_nil, Nat.reduceAdd, Nat.reduceSub, Array.replicate_succ, Array.replicate_zero, List.push_toArray, List.append_toArray, List.nil_append, List.cons_append]
  gi_wp2
  gi_loopw [9] (fun p wr => ∃ (k : Nat) (pre : List Wd), k ≤ L.length ∧ pre.length ≤ k ∧ p = .int .i64 k ∧ Kf A N W wr ∧ Hid (pre.map (fun x => x.1) = flt PS o (L.take k)) ∧ J pre wr)
    (fun p _ => L.length - (intOf p).toNat)
  case atStart => exact ⟨0, [], Nat.zero_le _, Nat.le_refl _, rfl, Kf.refl A N W, rfl, h0⟩
  case round =>
    obtain ⟨k, pre, hk, hpl, rfl, hKf, HW, hJs⟩ := hrel
    by_cases hlt : k < L.length
    · have hEv := HE.out wr hKf
      obtain ⟨b, off, rfl, _, p1⟩ := hEv.txt k hlt
      obtain ⟨x, hx⟩ : ∃ x, x = L.getD k ⟨#[]⟩ := ⟨_, rfl⟩
      have hxs : x.size ≤ 1000000 := by rw [hx]; exact HLS.out k
      rw [← hx] at p1
      have HX := hide' hx
      clear hx
      have cm := hEv.test.cell
      have km : Calls Try.prog 28 #[.slice sp PS.length cs, .string x] wr.drew fun e w' => e = .returned (.bool (ay PS x)) ∧ Below wr.heap.size wr.drew w' := anyMatch_any B PS sp cs x wr.drew hp hxs (hEv.shp.below (Below.refl _ wr).drew)
      obtain ⟨r, hr⟩ : ∃ r, r = ay PS x := ⟨_, rfl⟩
      obtain ⟨y, hy⟩ : ∃ y, y = !o := ⟨_, rfl⟩
      have hwant : Boxed wr Bo 4 (.bool y) := by rw [hy]; exact hEv.want
      have cw := hwant.cell
      rw [← hr] at km
      have HR := hide' hr
      have HYO := hide' hy
      clear hr hy
      gi_wp2
      refine wpIn_region_any hmx ?_
      change wpAnyIn _ _ _ _ _ _ _ _ _ (World.drew _)
      refine wpAnyIn_take (i := 1) (v := .string x) rfl rfl (by kernel_rfl) (by kernel_rfl) (by kernel_rfl) (fun _ _ _ h => h) ⟨Or.inl ⟨by rfl, by intro w; go_simp⟩, fun _ => rfl⟩ ?_
      refine wpAnyIn_ready (rs := [0, 3]) (by kernel_rfl) (by simp) ?_
      refine AllReadyIn.cons rfl (fun K hK => ?_) (AllReadyIn.cons rfl (fun K hK => ?_) AllReadyIn.nil)
      · go_simp
        refine hK _ _ ?_
        clear hK K
        refine wpAnyIn_ready (rs := [2, 3]) (by kernel_rfl) (by simp) ?_
        refine AllReadyIn.cons rfl (fun K hK => ?_) (AllReadyIn.cons rfl (fun K hK => ?_) AllReadyIn.nil)
        · go_simp
          refine ⟨trivial, ?_⟩
          refine (callsIn_wide.2 km).mono ?_
          rintro e w1 ⟨rfl, hb⟩
          have hb1 : Below wr.heap.size wr w1 := (Below.refl _ wr).drew.trans hb
          have cw1 := (hwant.kept (below_grown hb1) (by simp)).cell
          clear hb
          refine hK _ _ ?_
          clear hK K
          refine wpAnyIn_ready (rs := [3]) (by kernel_rfl) (by simp) ?_
          refine AllReadyIn.cons rfl (fun K hK => ?_) AllReadyIn.nil
          go_simp
          refine hK _ _ ?_
          clear hK K
          have hK1 : Kf A N W w1 := hKf.t (Kf.below hb1 (by have := hKf.1; omega))
          have hJ1 : J pre w1 := HJA.out pre wr w1 none hJs (below_grown hb1) (fun r e => by cases e)
          cases hry : (r == y) with
          | true =>
            obtain ⟨fn, tmps, assign, body, hy, hRd⟩ := HY.out pre ⟨x, hxs⟩ w1 hJ1 (by omega)
            dsimp only at hy
            refine wpAnyIn_ready (rs := [4]) (by kernel_rfl) (by simp) ?_
            refine AllReadyIn.cons rfl (fun K hK => ?_) AllReadyIn.nil
            go_simp
            refine hK _ _ ?_
            clear hK K
            refine wpAnyIn_ready (rs := [5]) (by kernel_rfl) (by simp) ?_
            refine AllReadyIn.cons rfl (fun K hK => ?_) AllReadyIn.nil
            go_simp
            refine hK _ _ ?_
            clear hK K
            refine wpAnyIn_take (i := 6) (v := .func (.yield l) #[] #[]) rfl rfl (by kernel_rfl) (by kernel_rfl) (by kernel_rfl) (fun _ _ _ h => h) ⟨Or.inl ⟨by rfl, by intro w; go_simp⟩, fun _ => rfl⟩ ?_
            refine wpAnyIn_take (i := 7) (v := .string x) rfl rfl (by kernel_rfl) (by kernel_rfl) (by kernel_rfl) (fun _ _ _ h => h) ⟨Or.inl ⟨by rfl, by intro w; go_simp⟩, fun _ => rfl⟩ ?_
            refine wpAnyIn_ready (rs := [8]) (by kernel_rfl) (by simp) ?_
            refine AllReadyIn.cons rfl (fun K hK => ?_) AllReadyIn.nil
            go_simp
            refine hRd.mono ?_
            rintro e W3 (⟨rfl, hJ3, hk3⟩ | ⟨rfl, hJx3⟩)
            · refine hK _ _ ?_
              clear hK K hy hRd
              refine wpAnyIn_ready (rs := [9]) (by kernel_rfl) (by simp) ?_
              refine AllReadyIn.cons rfl (fun K hK => ?_) AllReadyIn.nil
              go_simp
              refine hK _ _ ?_
              clear hK K
              refine wpAnyIn_ready (rs := [10]) (by kernel_rfl) (by simp) ?_
              refine AllReadyIn.cons rfl (fun K hK => ?_) AllReadyIn.nil
              go_simp
              refine hK _ _ ?_
              clear hK K
              refine wpAnyIn_done (by kernel_rfl) ?_ _
              gi_wp2
              exact ⟨⟨k + 1, pre ++ [⟨x, hxs⟩], by omega, by simp; omega, by go_num, hK1.t hk3, pick_yes hxs HW.out HX.out HR.out HYO.out hry hlt, hJ3⟩, by simp [intOf]; omega⟩
            · refine hK _ _ ?_
              clear hK K hy hRd
              refine wpAnyIn_ready (rs := [9]) (by kernel_rfl) (by simp) ?_
              refine AllReadyIn.cons rfl (fun K hK => ?_) AllReadyIn.nil
              go_simp
              refine hK _ _ ?_
              clear hK K
              refine wpAnyIn_ready (rs := [10]) (by kernel_rfl) (by simp) ?_
              refine AllReadyIn.cons rfl (fun K hK => ?_) AllReadyIn.nil
              go_simp
              refine hK _ _ ?_
              clear hK K
              refine wpAnyIn_done (by kernel_rfl) ?_ _
              gi_wp2
              refine bodyPost_ret (results_none rfl _ _ _) rfl ?_
              exact ⟨⟨_, rfl⟩, .inr ⟨_, trivial, hJx3⟩⟩
          | false =>
            refine wpAnyIn_ready (rs := [4]) (by kernel_rfl) (by simp) ?_
            refine AllReadyIn.cons rfl (fun K hK => ?_) AllReadyIn.nil
            go_simp
            refine hK _ _ ?_
            clear hK K
            refine wpAnyIn_ready (rs := [5]) (by kernel_rfl) (by simp) ?_
            refine AllReadyIn.cons rfl (fun K hK => ?_) AllReadyIn.nil
            go_simp
            refine hK _ _ ?_
            clear hK K
            refine wpAnyIn_ready (rs := [6, 7]) (by kernel_rfl) (by simp) ?_
            refine AllReadyIn.cons rfl (fun K hK => ?_) (AllReadyIn.cons rfl (fun K hK => ?_) AllReadyIn.nil)
            · go_simp
              refine hK _ _ ?_
              clear hK K
              refine wpAnyIn_ready (rs := [7]) (by kernel_rfl) (by simp) ?_
              refine AllReadyIn.cons rfl (fun K hK => ?_) AllReadyIn.nil
              go_simp
              refine hK _ _ ?_
              clear hK K
              refine wpAnyIn_ready (rs := [8]) (by kernel_rfl) (by simp) ?_
              refine AllReadyIn.cons rfl (fun K hK => ?_) AllReadyIn.nil
              go_simp
              refine ⟨fun _ _ => trivial, ?_⟩
              refine hK _ _ ?_
              clear hK K
              refine wpAnyIn_ready (rs := [9]) (by kernel_rfl) (by simp) ?_
              refine AllReadyIn.cons rfl (fun K hK => ?_) AllReadyIn.nil
              go_simp
              refine hK _ _ ?_
              clear hK K
              refine wpAnyIn_ready (rs := [10]) (by kernel_rfl) (by simp) ?_
              refine AllReadyIn.cons rfl (fun K hK => ?_) AllReadyIn.nil
              go_simp
              refine hK _ _ ?_
              clear hK K
              refine wpAnyIn_done (by kernel_rfl) ?_ _
              gi_wp2
              exact ⟨⟨k + 1, pre, by omega, by omega, by go_num, hK1, pick_no HW.out HX.out HR.out HYO.out hry hlt, hJ1⟩, by simp [intOf]; omega⟩
            · go_simp
              refine hK _ _ ?_
              clear hK K
              refine wpAnyIn_ready (rs := [6]) (by kernel_rfl) (by simp) ?_
              refine AllReadyIn.cons rfl (fun K hK => ?_) AllReadyIn.nil
              go_simp
              refine hK _ _ ?_
              clear hK K
              refine wpAnyIn_ready (rs := [8]) (by kernel_rfl) (by simp) ?_
              refine AllReadyIn.cons rfl (fun K hK => ?_) AllReadyIn.nil
              go_simp
              refine ⟨fun _ _ => trivial, ?_⟩
              refine hK _ _ ?_
              clear hK K
              refine wpAnyIn_ready (rs := [9]) (by kernel_rfl) (by simp) ?_
              refine AllReadyIn.cons rfl (fun K hK => ?_) AllReadyIn.nil
              go_simp
              refine hK _ _ ?_
              clear hK K
              refine wpAnyIn_ready (rs := [10]) (by kernel_rfl) (by simp) ?_
              refine AllReadyIn.cons rfl (fun K hK => ?_) AllReadyIn.nil
              go_simp
              refine hK _ _ ?_
              clear hK K
              refine wpAnyIn_done (by kernel_rfl) ?_ _
              gi_wp2
              exact ⟨⟨k + 1, pre, by omega, by omega, by go_num, hK1, pick_no HW.out HX.out HR.out HYO.out hry hlt, hJ1⟩, by simp [intOf]; omega⟩
        · go_simp
          refine hK _ _ ?_
          clear hK K
          refine wpAnyIn_ready (rs := [2]) (by kernel_rfl) (by simp) ?_
          refine AllReadyIn.cons rfl (fun K hK => ?_) AllReadyIn.nil
          go_simp
          refine ⟨trivial, ?_⟩
          refine (callsIn_wide.2 km).mono ?_
          rintro e w1 ⟨rfl, hb⟩
          have hb1 : Below wr.heap.size wr w1 := (Below.refl _ wr).drew.trans hb
          have cw1 := (hwant.kept (below_grown hb1) (by simp)).cell
          clear hb
          refine hK _ _ ?_
          clear hK K
          have hK1 : Kf A N W w1 := hKf.t (Kf.below hb1 (by have := hKf.1; omega))
          have hJ1 : J pre w1 := HJA.out pre wr w1 none hJs (below_grown hb1) (fun r e => by cases e)
          cases hry : (r == y) with
          | true =>
            obtain ⟨fn, tmps, assign, body, hy, hRd⟩ := HY.out pre ⟨x, hxs⟩ w1 hJ1 (by omega)
            dsimp only at hy
            refine wpAnyIn_ready (rs := [4]) (by kernel_rfl) (by simp) ?_
            refine AllReadyIn.cons rfl (fun K hK => ?_) AllReadyIn.nil
            go_simp
            refine hK _ _ ?_
            clear hK K
            refine wpAnyIn_ready (rs := [5]) (by kernel_rfl) (by simp) ?_
            refine AllReadyIn.cons rfl (fun K hK => ?_) AllReadyIn.nil
            go_simp
            refine hK _ _ ?_
            clear hK K
            refine wpAnyIn_take (i := 6) (v := .func (.yield l) #[] #[]) rfl rfl (by kernel_rfl) (by kernel_rfl) (by kernel_rfl) (fun _ _ _ h => h) ⟨Or.inl ⟨by rfl, by intro w; go_simp⟩, fun _ => rfl⟩ ?_
            refine wpAnyIn_take (i := 7) (v := .string x) rfl rfl (by kernel_rfl) (by kernel_rfl) (by kernel_rfl) (fun _ _ _ h => h) ⟨Or.inl ⟨by rfl, by intro w; go_simp⟩, fun _ => rfl⟩ ?_
            refine wpAnyIn_ready (rs := [8]) (by kernel_rfl) (by simp) ?_
            refine AllReadyIn.cons rfl (fun K hK => ?_) AllReadyIn.nil
            go_simp
            refine hRd.mono ?_
            rintro e W3 (⟨rfl, hJ3, hk3⟩ | ⟨rfl, hJx3⟩)
            · refine hK _ _ ?_
              clear hK K hy hRd
              refine wpAnyIn_ready (rs := [9]) (by kernel_rfl) (by simp) ?_
              refine AllReadyIn.cons rfl (fun K hK => ?_) AllReadyIn.nil
              go_simp
              refine hK _ _ ?_
              clear hK K
              refine wpAnyIn_ready (rs := [10]) (by kernel_rfl) (by simp) ?_
              refine AllReadyIn.cons rfl (fun K hK => ?_) AllReadyIn.nil
              go_simp
              refine hK _ _ ?_
              clear hK K
              refine wpAnyIn_done (by kernel_rfl) ?_ _
              gi_wp2
              exact ⟨⟨k + 1, pre ++ [⟨x, hxs⟩], by omega, by simp; omega, by go_num, hK1.t hk3, pick_yes hxs HW.out HX.out HR.out HYO.out hry hlt, hJ3⟩, by simp [intOf]; omega⟩
            · refine hK _ _ ?_
              clear hK K hy hRd
              refine wpAnyIn_ready (rs := [9]) (by kernel_rfl) (by simp) ?_
              refine AllReadyIn.cons rfl (fun K hK => ?_) AllReadyIn.nil
              go_simp
              refine hK _ _ ?_
              clear hK K
              refine wpAnyIn_ready (rs := [10]) (by kernel_rfl) (by simp) ?_
              refine AllReadyIn.cons rfl (fun K hK => ?_) AllReadyIn.nil
              go_simp
              refine hK _ _ ?_
              clear hK K
              refine wpAnyIn_done (by kernel_rfl) ?_ _
              gi_wp2
              refine bodyPost_ret (results_none rfl _ _ _) rfl ?_
              exact ⟨⟨_, rfl⟩, .inr ⟨_, trivial, hJx3⟩⟩
          | false =>
            refine wpAnyIn_ready (rs := [4]) (by kernel_rfl) (by simp) ?_
            refine AllReadyIn.cons rfl (fun K hK => ?_) AllReadyIn.nil
            go_simp
            refine hK _ _ ?_
            clear hK K
            refine wpAnyIn_ready (rs := [5]) (by kernel_rfl) (by simp) ?_
            refine AllReadyIn.cons rfl (fun K hK => ?_) AllReadyIn.nil
            go_simp
            refine hK _ _ ?_
            clear hK K
            refine wpAnyIn_ready (rs := [6, 7]) (by kernel_rfl) (by simp) ?_
            refine AllReadyIn.cons rfl (fun K hK => ?_) (AllReadyIn.cons rfl (fun K hK => ?_) AllReadyIn.nil)
            · go_simp
              refine hK _ _ ?_
              clear hK K
              refine wpAnyIn_ready (rs := [7]) (by kernel_rfl) (by simp) ?_
              refine AllReadyIn.cons rfl (fun K hK => ?_) AllReadyIn.nil
              go_simp
              refine hK _ _ ?_
              clear hK K
              refine wpAnyIn_ready (rs := [8]) (by kernel_rfl) (by simp) ?_
              refine AllReadyIn.cons rfl (fun K hK => ?_) AllReadyIn.nil
              go_simp
              refine ⟨fun _ _ => trivial, ?_⟩
              refine hK _ _ ?_
              clear hK K
              refine wpAnyIn_ready (rs := [9]) (by kernel_rfl) (by simp) ?_
              refine AllReadyIn.cons rfl (fun K hK => ?_) AllReadyIn.nil
              go_simp
              refine hK _ _ ?_
              clear hK K
              refine wpAnyIn_ready (rs := [10]) (by kernel_rfl) (by simp) ?_
              refine AllReadyIn.cons rfl (fun K hK => ?_) AllReadyIn.nil
              go_simp
              refine hK _ _ ?_
              clear hK K
              refine wpAnyIn_done (by kernel_rfl) ?_ _
              gi_wp2
              exact ⟨⟨k + 1, pre, by omega, by omega, by go_num, hK1, pick_no HW.out HX.out HR.out HYO.out hry hlt, hJ1⟩, by simp [intOf]; omega⟩
            · go_simp
              refine hK _ _ ?_
              clear hK K
              refine wpAnyIn_ready (rs := [6]) (by kernel_rfl) (by simp) ?_
              refine AllReadyIn.cons rfl (fun K hK => ?_) AllReadyIn.nil
              go_simp
              refine hK _ _ ?_
              clear hK K
              refine wpAnyIn_ready (rs := [8]) (by kernel_rfl) (by simp) ?_
              refine AllReadyIn.cons rfl (fun K hK => ?_) AllReadyIn.nil
              go_simp
              refine ⟨fun _ _ => trivial, ?_⟩
              refine hK _ _ ?_
              clear hK K
              refine wpAnyIn_ready (rs := [9]) (by kernel_rfl) (by simp) ?_
              refine AllReadyIn.cons rfl (fun K hK => ?_) AllReadyIn.nil
              go_simp
              refine hK _ _ ?_
              clear hK K
              refine wpAnyIn_ready (rs := [10]) (by kernel_rfl) (by simp) ?_
              refine AllReadyIn.cons rfl (fun K hK => ?_) AllReadyIn.nil
              go_simp
              refine hK _ _ ?_
              clear hK K
              refine wpAnyIn_done (by kernel_rfl) ?_ _
              gi_wp2
              exact ⟨⟨k + 1, pre, by omega, by omega, by go_num, hK1, pick_no HW.out HX.out HR.out HYO.out hry hlt, hJ1⟩, by simp [intOf]; omega⟩
      · go_simp
        refine hK _ _ ?_
        clear hK K
        refine wpAnyIn_ready (rs := [0]) (by kernel_rfl) (by simp) ?_
        refine AllReadyIn.cons rfl (fun K hK => ?_) AllReadyIn.nil
        go_simp
        refine hK _ _ ?_
        clear hK K
        refine wpAnyIn_ready (rs := [2]) (by kernel_rfl) (by simp) ?_
        refine AllReadyIn.cons rfl (fun K hK => ?_) AllReadyIn.nil
        go_simp
        refine ⟨trivial, ?_⟩
        refine (callsIn_wide.2 km).mono ?_
        rintro e w1 ⟨rfl, hb⟩
        have hb1 : Below wr.heap.size wr w1 := (Below.refl _ wr).drew.trans hb
        have cw1 := (hwant.kept (below_grown hb1) (by simp)).cell
        clear hb
        refine hK _ _ ?_
        clear hK K
        have hK1 : Kf A N W w1 := hKf.t (Kf.below hb1 (by have := hKf.1; omega))
        have hJ1 : J pre w1 := HJA.out pre wr w1 none hJs (below_grown hb1) (fun r e => by cases e)
        cases hry : (r == y) with
        | true =>
          obtain ⟨fn, tmps, assign, body, hy, hRd⟩ := HY.out pre ⟨x, hxs⟩ w1 hJ1 (by omega)
          dsimp only at hy
          refine wpAnyIn_ready (rs := [4]) (by kernel_rfl) (by simp) ?_
          refine AllReadyIn.cons rfl (fun K hK => ?_) AllReadyIn.nil
          go_simp
          refine hK _ _ ?_
          clear hK K
          refine wpAnyIn_ready (rs := [5]) (by kernel_rfl) (by simp) ?_
          refine AllReadyIn.cons rfl (fun K hK => ?_) AllReadyIn.nil
          go_simp
          refine hK _ _ ?_
          clear hK K
          refine wpAnyIn_take (i := 6) (v := .func (.yield l) #[] #[]) rfl rfl (by kernel_rfl) (by kernel_rfl) (by kernel_rfl) (fun _ _ _ h => h) ⟨Or.inl ⟨by rfl, by intro w; go_simp⟩, fun _ => rfl⟩ ?_
          refine wpAnyIn_take (i := 7) (v := .string x) rfl rfl (by kernel_rfl) (by kernel_rfl) (by kernel_rfl) (fun _ _ _ h => h) ⟨Or.inl ⟨by rfl, by intro w; go_simp⟩, fun _ => rfl⟩ ?_
          refine wpAnyIn_ready (rs := [8]) (by kernel_rfl) (by simp) ?_
          refine AllReadyIn.cons rfl (fun K hK => ?_) AllReadyIn.nil
          go_simp
          refine hRd.mono ?_
          rintro e W3 (⟨rfl, hJ3, hk3⟩ | ⟨rfl, hJx3⟩)
          · refine hK _ _ ?_
            clear hK K hy hRd
            refine wpAnyIn_ready (rs := [9]) (by kernel_rfl) (by simp) ?_
            refine AllReadyIn.cons rfl (fun K hK => ?_) AllReadyIn.nil
            go_simp
            refine hK _ _ ?_
            clear hK K
            refine wpAnyIn_ready (rs := [10]) (by kernel_rfl) (by simp) ?_
            refine AllReadyIn.cons rfl (fun K hK => ?_) AllReadyIn.nil
            go_simp
            refine hK _ _ ?_
            clear hK K
            refine wpAnyIn_done (by kernel_rfl) ?_ _
            gi_wp2
            exact ⟨⟨k + 1, pre ++ [⟨x, hxs⟩], by omega, by simp; omega, by go_num, hK1.t hk3, pick_yes hxs HW.out HX.out HR.out HYO.out hry hlt, hJ3⟩, by simp [intOf]; omega⟩
          · refine hK _ _ ?_
            clear hK K hy hRd
            refine wpAnyIn_ready (rs := [9]) (by kernel_rfl) (by simp) ?_
            refine AllReadyIn.cons rfl (fun K hK => ?_) AllReadyIn.nil
            go_simp
            refine hK _ _ ?_
            clear hK K
            refine wpAnyIn_ready (rs := [10]) (by kernel_rfl) (by simp) ?_
            refine AllReadyIn.cons rfl (fun K hK => ?_) AllReadyIn.nil
            go_simp
            refine hK _ _ ?_
            clear hK K
            refine wpAnyIn_done (by kernel_rfl) ?_ _
            gi_wp2
            refine bodyPost_ret (results_none rfl _ _ _) rfl ?_
            exact ⟨⟨_, rfl⟩, .inr ⟨_, trivial, hJx3⟩⟩
        | false =>
          refine wpAnyIn_ready (rs := [4]) (by kernel_rfl) (by simp) ?_
          refine AllReadyIn.cons rfl (fun K hK => ?_) AllReadyIn.nil
          go_simp
          refine hK _ _ ?_
          clear hK K
          refine wpAnyIn_ready (rs := [5]) (by kernel_rfl) (by simp) ?_
          refine AllReadyIn.cons rfl (fun K hK => ?_) AllReadyIn.nil
          go_simp
          refine hK _ _ ?_
          clear hK K
          refine wpAnyIn_ready (rs := [6, 7]) (by kernel_rfl) (by simp) ?_
          refine AllReadyIn.cons rfl (fun K hK => ?_) (AllReadyIn.cons rfl (fun K hK => ?_) AllReadyIn.nil)
          · go_simp
            refine hK _ _ ?_
            clear hK K
            refine wpAnyIn_ready (rs := [7]) (by kernel_rfl) (by simp) ?_
            refine AllReadyIn.cons rfl (fun K hK => ?_) AllReadyIn.nil
            go_simp
            refine hK _ _ ?_
            clear hK K
            refine wpAnyIn_ready (rs := [8]) (by kernel_rfl) (by simp) ?_
            refine AllReadyIn.cons rfl (fun K hK => ?_) AllReadyIn.nil
            go_simp
            refine ⟨fun _ _ => trivial, ?_⟩
            refine hK _ _ ?_
            clear hK K
            refine wpAnyIn_ready (rs := [9]) (by kernel_rfl) (by simp) ?_
            refine AllReadyIn.cons rfl (fun K hK => ?_) AllReadyIn.nil
            go_simp
            refine hK _ _ ?_
            clear hK K
            refine wpAnyIn_ready (rs := [10]) (by kernel_rfl) (by simp) ?_
            refine AllReadyIn.cons rfl (fun K hK => ?_) AllReadyIn.nil
            go_simp
            refine hK _ _ ?_
            clear hK K
            refine wpAnyIn_done (by kernel_rfl) ?_ _
            gi_wp2
            exact ⟨⟨k + 1, pre, by omega, by omega, by go_num, hK1, pick_no HW.out HX.out HR.out HYO.out hry hlt, hJ1⟩, by simp [intOf]; omega⟩
          · go_simp
            refine hK _ _ ?_
            clear hK K
            refine wpAnyIn_ready (rs := [6]) (by kernel_rfl) (by simp) ?_
            refine AllReadyIn.cons rfl (fun K hK => ?_) AllReadyIn.nil
            go_simp
            refine hK _ _ ?_
            clear hK K
            refine wpAnyIn_ready (rs := [8]) (by kernel_rfl) (by simp) ?_
            refine AllReadyIn.cons rfl (fun K hK => ?_) AllReadyIn.nil
            go_simp
            refine ⟨fun _ _ => trivial, ?_⟩
            refine hK _ _ ?_
            clear hK K
            refine wpAnyIn_ready (rs := [9]) (by kernel_rfl) (by simp) ?_
            refine AllReadyIn.cons rfl (fun K hK => ?_) AllReadyIn.nil
            go_simp
            refine hK _ _ ?_
            clear hK K
            refine wpAnyIn_ready (rs := [10]) (by kernel_rfl) (by simp) ?_
            refine AllReadyIn.cons rfl (fun K hK => ?_) AllReadyIn.nil
            go_simp
            refine hK _ _ ?_
            clear hK K
            refine wpAnyIn_done (by kernel_rfl) ?_ _
            gi_wp2
            exact ⟨⟨k + 1, pre, by omega, by omega, by go_num, hK1, pick_no HW.out HX.out HR.out HYO.out hry hlt, hJ1⟩, by simp [intOf]; omega⟩
    · have hfin : pre.map (fun x => x.1) = flt PS o L := by rw [HW.out]; exact flt_all PS o L k hlt
      have HF := hide' hfin
      clear hfin HW
      gi_wp2
      go_end0
      exact ⟨⟨_, rfl⟩, .inl ⟨pre, HF.out, hJs⟩⟩
end Go.Proofs.Ytbegdhbpcgflkaa
