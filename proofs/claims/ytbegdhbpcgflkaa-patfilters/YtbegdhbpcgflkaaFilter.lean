/- The contract of pat.Filter: it hands back a new list of the words that stay. -/
import Derived.Test.YtbegdhbpcgflkaaChosen
namespace Go.Proofs.Ytbegdhbpcgflkaa
open Go.RowKit Go.Shelf
attribute [local go_sem] Oper.semAt_some

def encW (x : Wd) : Value := .string x.1
/-- pat.chosen HANDS BACK A VALUE that yields the words that stay, in order, while what it reads is kept. -/
theorem chosen_stops (n : Nat) (hn : 1 ≤ n) (A N Bw Bm Bo B : Nat) (PS L : List ByteArray) (o : Bool) (al sp : Option Addr) (cl cs : Nat) (hp : PS.length ≤ 100000) (hl : L.length ≤ 100000) (hls : ∀ j, (L.getD j ⟨#[]⟩).size ≤ 1000000)
    (w : World) (hN : N ≤ w.heap.size) (hE : ∀ W', Kf A N w W' → Ev PS L o al sp cl cs Bw Bm Bo B W') :
    SeqStopsK Fence.wide n Try.prog 35 #[.pointer (some ⟨Bw, 0, none⟩), .pointer (some ⟨Bm, 0, none⟩), .pointer (some ⟨Bo, 0, none⟩)] (fun x : Wd => #[Value.string x.1]) (Kf A N) (fun ys => ys.map (fun x => x.1) = flt PS o L) (fun _ => True) L.length w := fun l J Jx W hW hJ _ hY h0 =>
  chosen1_in n hn l A N Bw Bm Bo B PS L o al sp cl cs hp hl hls J Jx hY W hJ (Nat.le_trans hN hW.size) (fun W' h => hE W' ((Kf.below hW hN).t h)) h0

/-- what holds between two rounds of Filter -/
def FlI (w : World) (N : Nat) (pre : List Wd) (W : World) : Prop :=
  (∃ v, Boxed W w.heap.size 30 v ∧ W.ownsRow N 9 1 v pre.length (pre.map encW) ∧ True) ∧ Below w.heap.size w W ∧ N ≤ W.heap.size

/-- the end of a round: behind the copy, the append and the store -/
theorem filt_end {w W w1 w2 : World} {N : Nat} {pre : List Wd} {x : Wd} {v v' : Value} {tmp : Obj} (B : Nat)
    (hv : Boxed W w.heap.size 30 v) (hrow : W.ownsRow N 9 1 v pre.length (pre.map encW)) (hB : Below w.heap.size w W) (hA : w.heap.size < N) (hN : N ≤ W.heap.size)
    (hb1 : Below W.heap.size W w1) (hown' : w2.ownsRow N 9 1 v' (pre.length + 1) (pre.map encW ++ [encW x])) (hgrow : (w1.alloc tmp).grownBy w2 v.ownBlock) :
    Boxed w2 w.heap.size 30 v ∧ KeepsFrom B W (w2.setCell ⟨w.heap.size, 0, none⟩ v') ∧ Kf w.heap.size N W (w2.setCell ⟨w.heap.size, 0, none⟩ v') ∧ FlI w N (pre ++ [x]) (w2.setCell ⟨w.heap.size, 0, none⟩ v') := by
  have hv1 := box_below hv hb1
  have hrow1 := row_below hrow hb1
  have hv2 : Boxed w2 w.heap.size 30 v := (hv1.alloc tmp).kept hgrow (row_not hrow1 hA)
  have hg3 := grownBy_setCell' w2 w.heap.size v'
  have hs1 := hb1.size
  have hs2 : w1.heap.size + 1 ≤ w2.heap.size := by have := hgrow.size; simpa using this
  have hs3 := hg3.size
  have hk : Kf w.heap.size N W (w2.setCell ⟨w.heap.size, 0, none⟩ v') := by
    refine ⟨by omega, fun k hk hkA => ?_⟩
    have e3 := hg3.block k (by omega) (by simpa using hkA)
    have e2 := hgrow.block k (by simp; omega) (by
      rcases hrow1.2 with ⟨rfl, _⟩ | ⟨g, cap, cur, rfl, hb, _, _⟩
      · simp [Value.ownBlock]
      · simp [Value.ownBlock]; omega)
    have e1 : (w1.alloc tmp).heap[k]? = w1.heap[k]? := Below.heap_alloc w1 tmp k (by omega)
    exact e3.trans (e2.trans (e1.trans (hb1.block k (by omega))))
  have hks : KeepsOthers W (w2.setCell ⟨w.heap.size, 0, none⟩ v') := by
    refine (((keeps_below hb1).trans (KeepsOthers.alloc w1 tmp)).trans (KeepsOthers.of_grownBy hgrow fun j _ ej hj => ?_)).trans (KeepsOthers.setCell _ _ _)
    rcases (hrow1.alloc tmp).2 with ⟨rfl, _⟩ | ⟨g, cap, cur, rfl, _, hgb, _⟩
    · simp [Value.ownBlock] at ej
    · obtain rfl : g = j := by simpa [Value.ownBlock] using ej
      rw [hgb] at hj; cases hj; rfl
  have hb2 : Below w.heap.size w (w2.setCell ⟨w.heap.size, 0, none⟩ v') := by
    refine (((hB.trans (hb1.mono hB.size)).alloc (by omega) tmp).grown hgrow (by simp; omega) fun j ej => ?_).setCell (p := ⟨w.heap.size, 0, none⟩) (Nat.le_refl _) v'
    rcases hrow1.2 with ⟨rfl, _⟩ | ⟨g, cap, cur, rfl, hb, _, _⟩
    · simp [Value.ownBlock] at ej
    · obtain rfl : g = j := by simpa [Value.ownBlock] using ej
      omega
  refine ⟨hv2, hks.from _, hk, ⟨v', hv2.set v', ?_, trivial⟩, hb2, by omega⟩
  have := hown'.kept hg3 (.inr (row_not hown' hA).symm)
  simpa using this

set_option maxRecDepth 100000 in
set_option maxHeartbeats 2000000 in
theorem filter_any (PS L : List ByteArray) (o : Bool) (ap al : Option Addr) (cp cl : Nat) (w : World) (hp : PS.length ≤ 100000) (hl : L.length ≤ 100000) (hps : ∀ j, (PS.getD j ⟨#[]⟩).size ≤ 1000000) (hls : ∀ j, (L.getD j ⟨#[]⟩).size ≤ 1000000)
    (hP : Txt w ap PS) (hL : Txt w al L) :
    Calls Try.prog 17 #[.slice ap PS.length cp, .slice al L.length cl, .bool o] w fun e w' => ∃ (v : Value) (ys : List Wd), e = .returned v ∧ ys.map (fun x => x.1) = flt PS o L ∧ w'.ownsRow w.heap.size 9 1 v ys.length (ys.map encW) ∧ Below w.heap.size w w' := by
  obtain ⟨i0, hi, hz0, hz1, hz2⟩ := info_parts info9
  have HL := hide' hL
  have HLS := hide' hls
  have ks : Calls Try.prog 27 #[.slice ap PS.length cp] (w.alloc (.cells #[.slice none 0 0] 30)) fun e w' => ∃ v, e = .returned v ∧ w'.ownsRow (w.heap.size + 1) 38 3 v PS.length (PS.flatMap shc) ∧ Below (w.heap.size + 1) (w.alloc (.cells #[.slice none 0 0] 30)) w' := by
    have := shapesOf_any PS ap cp (w.alloc (.cells #[.slice none 0 0] 30)) hp hps (hP.below ((Below.refl _ w).alloc (Nat.le_refl _) _))
    rw [World.size_alloc] at this
    exact this
  clear hL hls hP hps
  refine (callsIn_wide (n := 5)).1 ?_
  refine callsIn_of_wp_marks Try.func17 rfl trivial ?_ rfl
  simp only [Try.ntmps17, List.size_toArray, List.length_cons, List.length_nil, Nat.reduceAdd, Nat.reduceSub, Array.replicate_succ, Array.replicate_zero, List.push_toArray, List.append_toArray, List.nil_append, List.cons_append]
  gi_wp2_with (first | (refine ⟨trivial, ?_⟩; gi_at_call 27; refine (callsIn_wide.2 ks).mono ?_; rintro e w1 ⟨v, rfl, hrow1, hb1⟩; obtain ⟨sp, cs, rfl, hSh⟩ := Shp.of_row hrow1) | (refine ⟨trivial, ?_⟩; gi_at_call 26; refine (callsIn_wide.2 (chosen_any _ _ _ _ _ _)).mono ?_; rintro e w' ⟨rfl, rfl⟩))
  obtain ⟨W0, hW0⟩ : ∃ W0, W0 = ((w1.alloc (Obj.cells #[Value.slice al L.length cl] 30)).alloc (Obj.cells #[Value.func (Fn.func 28) #[Value.slice sp PS.length cs] #[]] 25)).alloc (Obj.cells #[Value.bool !o] 4) := ⟨_, rfl⟩
  rw [← hW0]
  have hz1' : w.heap.size + 1 ≤ w1.heap.size := by have := hb1.size; simpa using this
  have hz : W0.heap.size = w1.heap.size + 3 := by rw [hW0]; simp
  have hA : w.heap.size < W0.heap.size := by omega
  have hB1 : Below w.heap.size w w1 := ((Below.refl _ w).alloc (Nat.le_refl _) _).trans (hb1.mono (by omega))
  have hB10 : Below w1.heap.size w1 W0 := by rw [hW0]; exact (((Below.refl _ w1).alloc (Nat.le_refl _) _).alloc (by simp) _).alloc (by simp; omega) _
  have hB0 : Below w.heap.size w W0 := hB1.trans (hB10.mono (by omega))
  have bA1 : Boxed w1 w.heap.size 30 (.slice none 0 0) := (hb1.block w.heap.size (by omega)).trans (Boxed.new w 30 (.slice none 0 0))
  have bA : Boxed W0 w.heap.size 30 (.slice none 0 0) := box_below bA1 hB10
  have bW : Boxed W0 w1.heap.size 30 (.slice al L.length cl) := by
    rw [hW0]; exact ((Boxed.new w1 30 (.slice al L.length cl)).alloc _).alloc _
  have bM : Boxed W0 (w1.heap.size + 1) 25 (.func (.func 28) #[.slice sp PS.length cs] #[]) := by
    have := (Boxed.new (w1.alloc (Obj.cells #[Value.slice al L.length cl] 30)) 25 (.func (.func 28) #[.slice sp PS.length cs] #[])).alloc (Obj.cells #[Value.bool !o] 4)
    rw [World.size_alloc] at this
    rw [hW0]; exact this
  have bO : Boxed W0 (w1.heap.size + 2) 4 (.bool (!o)) := by
    have := Boxed.new ((w1.alloc (Obj.cells #[Value.slice al L.length cl] 30)).alloc (Obj.cells #[Value.func (Fn.func 28) #[Value.slice sp PS.length cs] #[]] 25)) 4 (.bool (!o))
    rw [World.size_alloc, World.size_alloc] at this
    rw [hW0]; exact this
  have hE : ∀ W', Kf w.heap.size W0.heap.size W0 W' → Ev PS L o al sp cl cs w1.heap.size (w1.heap.size + 1) (w1.heap.size + 2) (w.heap.size + 1) W' := by
    intro W' h
    have hs := h.1
    refine ⟨(h.2 _ (by omega) (by omega)).trans bW, (h.2 _ (by omega) (by omega)).trans bM, (h.2 _ (by omega) (by omega)).trans bO, fun k hk => ?_, fun k hk => ?_⟩
    · obtain ⟨b, off, e, h1, h2⟩ := HL.out k hk
      exact ⟨b, off, e, by omega, (h.cell b _ (by omega) (by omega)).trans ((hB0.cell (p := ⟨b, off + k, none⟩) h1).trans h2)⟩
    · obtain ⟨b, e, g0, g1, g2, g3, g4⟩ := hSh k hk
      exact ⟨b, e, g0, by omega, (h.cell b _ (by omega) (by omega)).trans ((hB10.cell (p := ⟨b, k * 3, none⟩) g1).trans g2), (h.cell b _ (by omega) (by omega)).trans ((hB10.cell (p := ⟨b, k * 3 + 1, none⟩) g1).trans g3), (h.cell b _ (by omega) (by omega)).trans ((hB10.cell (p := ⟨b, k * 3 + 2, none⟩) g1).trans g4)⟩
  have hmx : Try.prog.follows .mixedOrders = true := by kernel_rfl
  clear hSh hrow1 bA1 bW bM bO hB10 hW0 ks
  refine wpIn_rangeFunc_ownG rfl (by decide) (gf := 35) (lb := #[.pointer (some ⟨w1.heap.size, 0, none⟩), .pointer (some ⟨w1.heap.size + 1, 0, none⟩), .pointer (some ⟨w1.heap.size + 2, 0, none⟩)]) rfl trivial (enters_of Try.func35 (by kernel_rfl) rfl)
    (chosen_stops 4 (by decide) w.heap.size W0.heap.size w1.heap.size (w1.heap.size + 1) (w1.heap.size + 2) (w.heap.size + 1) PS L o al sp cl cs hp hl HLS.out W0 (Nat.le_refl _) hE) (fun h k => Kf.t h k) (fun W l o o' hl _ _ _ => Kf.b W l o' hl) (Below.refl _ _) (fun _ => rfl)
    (FlI w W0.heap.size) (fun _ _ _ => False)
    (OwnFrom.and (Own.from (holdsRow_own W0.heap.size w.heap.size 30 9 1 (fun pre : List Wd => pre.length) (fun pre => pre.map encW) (fun _ _ => True)) _) (OwnFrom.and (ownFrom_below (Nat.le_refl _) (by omega)) (fun _ _ _ _ hs hg _ => Nat.le_trans hs hg.size)))
    (fun _ _ _ _ _ hs _ _ => hs)
    ⟨⟨_, bA, World.ownsRow_nil _ _ _ _, trivial⟩, hB0, Nat.le_refl _⟩
    (fun x => { tmps := #[.slice ap PS.length cp, .slice al L.length cl, .bool o, undef, undef, undef, .slice none 0 0, .pointer (some ⟨w.heap.size, 0, none⟩), .string x.1, .slice al L.length cl, .slice ap PS.length cp, .slice sp PS.length cs, .func (.func 28) #[.slice sp PS.length cs] #[], .bool o, .bool !o, .func (.func 35) #[] #[.pointer (some ⟨w1.heap.size, 0, none⟩), .pointer (some ⟨w1.heap.size + 1, 0, none⟩), .pointer (some ⟨w1.heap.size + 2, 0, none⟩)], .string x.1, undef, undef, undef, undef, undef, undef], defers := [] }) ?assign ?body ?done ?stop
  case assign =>
    intro l x W K hK
    gi_wp2
    exact hK
  case body =>
    rintro l pre x W ⟨⟨v, hv, hrow, _⟩, hB, hN⟩ hlt
    have hc := hv.cell
    gi_wp2
    refine wpIn_region_any hmx ?_
    change wpAnyIn _ _ _ _ _ _ _ _ _ (World.drew _)
    refine wpAnyIn_ready (rs := [0, 1]) (by kernel_rfl) (by simp) ?_
    refine AllReadyIn.cons rfl (fun K hK => ?_) (AllReadyIn.cons rfl (fun K hK => ?_) AllReadyIn.nil)
    go_simp
    refine hK _ _ ?_
    clear hK K
    refine wpAnyIn_ready (rs := [1]) (by kernel_rfl) (by simp) ?_
    refine AllReadyIn.cons rfl (fun K hK => ?_) AllReadyIn.nil
    go_simp
    refine hK _ _ ?_
    clear hK K
    refine wpAnyIn_ready (rs := [2]) (by kernel_rfl) (by simp) ?_
    refine AllReadyIn.cons rfl (fun K hK => ?_) AllReadyIn.nil
    go_simp
    refine ⟨trivial, ?_⟩
    refine (CallsIn.inRound l (callsIn_wide.2 (clone_any x.1 _ (by have := x.2; omega)))).mono ?_
    rintro e w3 ⟨rfl, hb⟩
    have hb3 : Below W.heap.size W w3 := (Below.refl _ W).drew.trans hb
    clear hb
    have hc1 := (box_below hv hb3).cell
    have hc2 := fun o => ((box_below hv hb3).alloc o).cell
    refine hK _ _ ?_
    clear hK K
    refine wpAnyIn_ready (rs := [3]) (by kernel_rfl) (by simp) ?_
    refine AllReadyIn.cons rfl (fun K hK => ?_) AllReadyIn.nil
    go_simp
    refine hK _ _ ?_
    clear hK K
    rotate_left
    go_simp
    refine hK _ _ ?_
    clear hK K
    refine wpAnyIn_ready (rs := [0, 2]) (by kernel_rfl) (by simp) ?_
    refine AllReadyIn.cons rfl (fun K hK => ?_) (AllReadyIn.cons rfl (fun K hK => ?_) AllReadyIn.nil)
    go_simp
    refine hK _ _ ?_
    clear hK K
    refine wpAnyIn_ready (rs := [2]) (by kernel_rfl) (by simp) ?_
    refine AllReadyIn.cons rfl (fun K hK => ?_) AllReadyIn.nil
    go_simp
    refine ⟨trivial, ?_⟩
    refine (CallsIn.inRound l (callsIn_wide.2 (clone_any x.1 _ (by have := x.2; omega)))).mono ?_
    rintro e w3 ⟨rfl, hb⟩
    have hb3 : Below W.heap.size W w3 := (Below.refl _ W).drew.trans hb
    clear hb
    have hc1 := (box_below hv hb3).cell
    have hc2 := fun o => ((box_below hv hb3).alloc o).cell
    refine hK _ _ ?_
    clear hK K
    refine wpAnyIn_ready (rs := [3]) (by kernel_rfl) (by simp) ?_
    refine AllReadyIn.cons rfl (fun K hK => ?_) AllReadyIn.nil
    go_simp
    refine hK _ _ ?_
    clear hK K
    rotate_left
    go_simp
    refine ⟨trivial, ?_⟩
    refine (CallsIn.inRound l (callsIn_wide.2 (clone_any x.1 _ (by have := x.2; omega)))).mono ?_
    rintro e w3 ⟨rfl, hb⟩
    have hb3 : Below W.heap.size W w3 := (Below.refl _ W).drew.trans hb
    clear hb
    have hc1 := (box_below hv hb3).cell
    have hc2 := fun o => ((box_below hv hb3).alloc o).cell
    refine hK _ _ ?_
    clear hK K
    refine wpAnyIn_ready (rs := [0, 3]) (by kernel_rfl) (by simp) ?_
    refine AllReadyIn.cons rfl (fun K hK => ?_) (AllReadyIn.cons rfl (fun K hK => ?_) AllReadyIn.nil)
    go_simp
    refine hK _ _ ?_
    clear hK K
    refine wpAnyIn_ready (rs := [3]) (by kernel_rfl) (by simp) ?_
    refine AllReadyIn.cons rfl (fun K hK => ?_) AllReadyIn.nil
    go_simp
    refine hK _ _ ?_
    clear hK K
    rotate_left
    go_simp
    refine hK _ _ ?_
    clear hK K
    refine wpAnyIn_ready (rs := [0]) (by kernel_rfl) (by simp) ?_
    refine AllReadyIn.cons rfl (fun K hK => ?_) AllReadyIn.nil
    go_simp
    refine hK _ _ ?_
    clear hK K
    all_goals
      have hpb : pre.length + 1 ≤ maxLen := by unfold maxLen; omega
      have hbb : (pre.length + 1) * 16 ≤ 140737488355328 := by omega
      have h2b : W0.heap.size ≤ (w3.alloc (Obj.cells #[Value.string x.1] 9)).heap.size := by have := hb3.size; simp; omega
      refine wpAnyIn_ready (rs := [4]) (by kernel_rfl) (by simp) ?_
      refine AllReadyIn.cons rfl (fun K hK => ?_) AllReadyIn.nil
      refine stepIn_append_own (w3.alloc (Obj.cells #[Value.string x.1] 9)) rfl (.tmp 17) (.tmp 20) 30 rfl W0.heap.size 9 i0 (.string ⟨#[]⟩) 1 16 Try.underlying30 hi hz0 hz1 hz2 rfl (by decide) v pre.length (pre.map encW) rfl ((row_below hrow hb3).alloc _) ⟨w3.heap.size, 0, none⟩ 1 1 [encW x] rfl rfl (cell_one_new _ _ _) (by simp [Value.oneCell', encW]) hpb hbb h2b ?_
      intro v' w2 hown' hgrow _
      obtain ⟨g', cap', rfl⟩ := ownsRow_succ hown'
      obtain ⟨hv2, hkf, hkp, hsp⟩ := filt_end W0.heap.size hv hrow hB hA hN hb3 hown' hgrow
      have hc3 := hv2.cell
      have hf3 := hv2.frozen
      refine hK _ _ ?_
      clear hK K
      refine wpAnyIn_ready (rs := [5]) (by kernel_rfl) (by simp) ?_
      refine AllReadyIn.cons rfl (fun K hK => ?_) AllReadyIn.nil
      go_simp
      refine hK _ _ ?_
      clear hK K
      refine wpAnyIn_done (by kernel_rfl) ?_ _
      exact ⟨hkf, hkp, hsp⟩
  case done =>
    rintro D ys W hD hys ⟨⟨v, hv, hrow, _⟩, hB, hN⟩ hK
    have hc := hv.cell
    gi_wp2
    refine ⟨by simp, .inl ⟨_, _, rfl, run_takeDeferred hK, ?_⟩⟩
    exact ⟨_, results_tmp rfl _ _ _, v, ys, rfl, hys, row_mono (ownsRow_putObj hrow _ hK rfl) (by omega), hB.trans (belowK_b (w := W0) (by omega) W D _ _ hD hK rfl rfl)⟩
  case stop =>
    rintro D c pre W _ _ h _
    exact h.elim
end Go.Proofs.Ytbegdhbpcgflkaa
