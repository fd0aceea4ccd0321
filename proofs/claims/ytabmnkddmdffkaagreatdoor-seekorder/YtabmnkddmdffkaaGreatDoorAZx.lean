/- The contract of text.words and of the iterator that it hands back: it yields the words of its text, one by one. The contract of text.Split: it hands back a new list of the words of its text. Lists of texts in memory; the contract of anvilref1.Blank. -/
import Derived.Test.YtabmnkddmdffkaaGreatDoorAXWords
import Derived.Test.YtabmnkddmdffkaaGreatDoorAWord
import Derived.Deep.QuietTactic
import Derived.BigQuiet
namespace Go.Proofs.YtabmnkddmdffkaaGreatDoor.Tx
open Go.RowKit Go.Shelf
attribute [local go_sem] Oper.semAt_some

/-- a word as it is handed on: a text that is not too long to be copied -/
abbrev Wd := { x : ByteArray // x.size ≤ 1000000 }
def bytesOf (x : Wd) : List UInt8 := x.1.data.toList
/-- what a round must keep: the box that holds the text -/
def KpB (Bs : Nat) (A B : World) : Prop := ∀ v, Boxed A Bs 9 v → Boxed B Bs 9 v
theorem KpB.t {Bs : Nat} {A B C : World} (h : KpB Bs A B) (k : KpB Bs B C) : KpB Bs A C := fun v hv => k v (h v hv)
theorem KpB.b {Bs : Nat} (W : World) (l : Nat) (o o' : Obj) (h : W.heap[l]? = some o) (ho : o.isCells = false) : KpB Bs W (W.putObj l o') := fun v hv =>
  hv.kept (grownBy_putObj' W l o') (fun e => by
    have e' : Bs = l := by simpa using e
    subst e'
    rw [show W.heap[Bs]? = _ from hv] at h
    cases h; cases ho)

theorem hide' {p : Prop} (h : p) : Hid p := h
theorem words_calls (s : ByteArray) (w : World) :
    Calls Tryz.prog 137 #[.string s] w fun e w' => e = .returned (.func (.func 157) #[] #[.pointer (some ⟨w.heap.size, 0, none⟩)]) ∧ w' = w.alloc (.cells #[.string s] 9) := by
  go_enter Tryz.func137, Tryz.ntmps137
  go_wp2
  go_ret
  exact ⟨rfl, rfl⟩

set_option maxRecDepth 100000 in
set_option maxHeartbeats 1000000 in
theorem words1_in (n : Nat) (hn : 1 ≤ n) (l Bs : Nat) (s : ByteArray) (hs : s.size ≤ 1000000) (J Jx : List Wd → World → Prop)
    (hY : ∀ pre x W, J pre W → pre.length < s.size → YieldAt Fence.wide (n - 1) Tryz.prog l #[.string x.1] W fun e W' =>
      (e = .returned (.bool true) ∧ J (pre ++ [x]) W' ∧ KpB Bs W W') ∨ (e = .returned (.bool false) ∧ Jx (pre ++ [x]) W'))
    (W : World) (hB : Boxed W Bs 9 (.string s)) (h0 : J [] W) :
    CallsIn Fence.wide n Tryz.prog 157 #[.func (.yield l) #[] #[], .pointer (some ⟨Bs, 0, none⟩)] W fun e W' => (∃ v, e = .returned v) ∧
      ((∃ ys, ys.map bytesOf = words s.data.toList ∧ J ys W') ∨ (∃ pre, True ∧ Jx pre W')) := by
  refine callsIn_of_wp Tryz.func157 rfl trivial ?_ rfl
  simp only [Tryz.ntmps157, List.size_toArray, List.length_cons, List.length_nil, Nat.reduceAdd, Nat.reduceSub, Array.replicate_succ, Array.replicate_zero, List.push_toArray, List.append_toArray, List.nil_append, List.cons_append]
  gi_wp2
  gi_loopw [3] (fun p wr => ∃ (k : Nat) (pre : List Wd), k ≤ s.size ∧ pre.length ≤ k ∧ p = .int .i64 k ∧ Boxed wr Bs 9 (.string s) ∧ Hid (pre.map bytesOf ++ words (s.data.toList.drop k) = words s.data.toList) ∧ J pre wr)
    (fun p _ => s.size - (intOf p).toNat)
  case atStart => exact ⟨0, [], Nat.zero_le _, Nat.le_refl _, rfl, hB, rfl, h0⟩
  case round =>
    obtain ⟨k, pre, hk, hpl, rfl, hBx, HW, hJs⟩ := hrel
    have hc := hBx.cell
    by_cases hlt : k < s.size
    · cases hb : bl s[k] with
      | true =>
        have kb : ∀ w, Calls Tryz.prog 158 #[.int .u8 s[k].toNat] w fun e w' => e = .returned (.bool true) ∧ w' = w := fun w => by have := blank_any s[k] w; rwa [hb] at this
        have hw := words_blank s[k] (s.data.toList.drop (k + 1)) hb
        rw [← drop_at s k hlt] at hw
        have HW' : Hid (pre.map bytesOf ++ words (s.data.toList.drop (k + 1)) = words s.data.toList) := by rw [← hw]; exact HW
        clear hw hb HW
        gi_wp2_with (refine ⟨trivial, ?_⟩; gi_at_call 158; refine (callsIn_wide.2 (kb _)).mono ?_; rintro e w' ⟨rfl, rfl⟩)
        exact ⟨⟨k + 1, pre, by omega, by omega, by go_num, hBx, HW', hJs⟩, by simp [intOf]; omega⟩
      | false =>
        have kb : ∀ w, Calls Tryz.prog 158 #[.int .u8 s[k].toNat] w fun e w' => e = .returned (.bool false) ∧ w' = w := fun w => by have := blank_any s[k] w; rwa [hb] at this
        have hw1 : 0 < wl (s.data.toList.drop k) := by rw [drop_at s k hlt, wl_cons _ _ hb]; omega
        have hw2 := wl_le (s.data.toList.drop k)
        have hw3 : wend s.data.toList k ≤ s.size := by unfold wend; simp at hw2; omega
        have hw4 : k < wend s.data.toList k := by unfold wend; omega
        have ke := wordEnd_any s k
        have hx : ∀ e, e = wend s.data.toList k → (s.extract k e).data.toList = (s.data.toList.drop k).take (wl (s.data.toList.drop k)) := by
          rintro e rfl
          rw [Lib.extract_data]
          congr 1
          unfold wend
          omega
        have hw := words_at _ hw1
        rw [List.drop_drop, show k + wl (s.data.toList.drop k) = wend s.data.toList k from rfl] at hw
        obtain ⟨e, he⟩ : ∃ e, e = wend s.data.toList k := ⟨_, rfl⟩
        rw [← he] at hw hw3 hw4 ke
        have hx' := hx e he
        have hsz : (s.extract k e).size ≤ 1000000 := by rw [ByteArray.size_extract]; omega
        have HW' : Hid ((pre ++ [(⟨s.extract k e, hsz⟩ : Wd)]).map bytesOf ++ words (s.data.toList.drop e) = words s.data.toList) := by
          show _ = _
          rw [← HW.out, hw]
          rw [List.map_append, List.map_singleton, show bytesOf ⟨s.extract k e, hsz⟩ = _ from hx', List.append_assoc, List.singleton_append]
        clear hw hb HW hx hx' hw1 hw2 he
        obtain ⟨fn, tmps, assign, body, hy, hR⟩ := hY pre ⟨s.extract k e, hsz⟩ wr hJs (by omega)
        dsimp only at hy
        gi_wp2_with (first | (refine ⟨trivial, ?_⟩; gi_at_call 158; refine (callsIn_wide.2 (kb _)).mono ?_; rintro e w' ⟨rfl, rfl⟩) | (refine ⟨trivial, ?_⟩; gi_at_call 159; refine (callsIn_wide.2 (ke _ (by unfold maxLen; omega) (by omega))).mono ?_; rintro e w' ⟨rfl, rfl⟩))
        refine hR.mono ?_
        rintro e' W3 (⟨rfl, hJ3, hk3⟩ | ⟨rfl, hJx3⟩)
        · have hB3 := hk3 _ hBx
          gi_wp2
          exact ⟨⟨e, _, by omega, by simp; omega, rfl, hB3, HW', hJ3⟩, by simp [intOf]; omega⟩
        · gi_wp2
          refine bodyPost_ret (results_none rfl _ _ _) rfl ?_
          exact ⟨⟨_, rfl⟩, .inr ⟨_, trivial, hJx3⟩⟩
    · have hfin : pre.map bytesOf = words s.data.toList := by rw [← HW.out, drop_end s k hlt, words_nil, List.append_nil]
      have HF := hide' hfin
      clear hfin HW
      gi_wp2
      go_end0
      exact ⟨⟨_, rfl⟩, .inl ⟨pre, HF.out, hJs⟩⟩

/-- text.words HANDS BACK A VALUE that yields the words of s, in order, while its box is kept. -/
theorem words_stops (n : Nat) (hn : 1 ≤ n) (Bs : Nat) (s : ByteArray) (hs : s.size ≤ 1000000) (w : World) (hB : Boxed w Bs 9 (.string s)) :
    SeqStopsK Fence.wide n Tryz.prog 157 #[.pointer (some ⟨Bs, 0, none⟩)] (fun x : Wd => #[Value.string x.1]) (KpB Bs) (fun ys => ys.map bytesOf = words s.data.toList) (fun _ => True) s.size w := fun l J Jx W hW _ _ hY h0 =>
  words1_in n hn l Bs s hs J Jx hY W ((hW.block Bs hB.lt).trans hB) h0
end Go.Proofs.YtabmnkddmdffkaaGreatDoor.Tx
namespace Go.Proofs.YtabmnkddmdffkaaGreatDoor.Tx
open Go.RowKit Go.Shelf
attribute [local go_sem] Oper.semAt_some

/-- append onto a row of the call's own, as one step of a region that draws its order, inside a fence -/
theorem stepIn_append_own {F : Fence} {n : Nat} {P : Program} (w : World) {ops : Array Oper} {o : Oper} {a : Act} {K : Act → World → Prop} {Q : Exit → Act → World → Prop} {E : Prop}
    (hg : o.guard = none) (s x : Operand) (t : TypeId) (hop : o.op = Op.call { callee := Callee.builtin Builtin.append, args := #[s, x], argTypes := #[t, t] })
    (base : Nat) (e : TypeId) (i : TypeInfo) (z : Value) (size bytes : Nat) (h1 : P.underlying t = some (.slice e)) (h2 : P.info? e = some i) (h3 : i.zero = some z) (h4 : i.size = size) (h5 : i.bytes = bytes) (h6 : z.cells.size = size) (h7 : 0 < size)
    (v : Value) (k : Nat) (xs : List Value) (hs : a.eval s = v) (hown : w.ownsRow base e size v k xs) (ad : Addr) (m c : Nat) (news : List Value) (hx : a.eval x = .slice (some ad) m c) (hn : news.length = m * size)
    (hc : ∀ j u, news[j]? = some u → w.cell? (ad.add j) = some u) (h1c : ∀ u ∈ news, u.oneCell' = true) (b1 : k + m ≤ maxLen) (b2 : (k + m) * bytes ≤ 140737488355328) (b3 : base ≤ w.heap.size)
    (hK : ∀ v' w', w'.ownsRow base e size v' (k + m) (xs ++ news) → w.grownBy w' v.ownBlock → (v' = .slice none 0 0 ↔ v = .slice none 0 0 ∧ m = 0) → K (a.put o.dst v') w') :
    if Region.wanted o (yielded ops a.tmps) = true then Oper.wpIn F n P o a w K Q else E := by
  have hw : Region.wanted o (yielded ops a.tmps) = true := by simp [Region.wanted, hg]
  rw [if_pos hw]
  obtain ⟨v', w', hrun, r1, r2, r3⟩ := run_append_own (P := P) w base t o.type e i z size bytes h1 h2 h3 h4 h5 h6 h7 v k xs hown ad m c news hn hc h1c b1 b2 b3
  unfold Oper.wpIn
  refine ⟨?_, ?_⟩
  · simp [Oper.about, hop, resolve, Target.leads, Sem.run_pure]
  · rw [Oper.semAt_plain F _ _ (by rw [hop]; intro c hc'; cases hc')]
    simp [execOp, hop, resolve, invoke, builtin, hs, hx, hrun, Result.andThen]
    exact hK v' w' r1 r2 r3

theorem info9 : (Tryz.prog.info? 9).map (fun i : TypeInfo => (i.zero, i.size, i.bytes)) = some (some (.string ⟨#[]⟩), 1, 16) := by kernel_rfl
def encW (x : Wd) : Value := .string x.1

theorem below_grown {w w' : World} (h : Below w.heap.size w w') : w.grownBy w' none := ⟨h.os, h.tape, h.output, h.size, fun k hk _ => h.block k hk⟩
theorem keeps_below {w w' : World} (h : Below w.heap.size w w') : KeepsOthers w w' := ⟨h.size, fun k _ hk _ => (h.block k (Array.getElem?_eq_some_iff.1 hk).1).trans hk⟩
theorem row_below {B : Nat} {e : TypeId} {m k : Nat} {v : Value} {xs : List Value} {w w' : World} (h : w.ownsRow B e m v k xs) (hb : Below w.heap.size w w') : w'.ownsRow B e m v k xs := h.kept (below_grown hb) (by
  rcases h.2 with ⟨rfl, _⟩ | ⟨g, cap, cur, rfl, _⟩
  · exact .inl rfl
  · exact .inr (by simp [Value.ownBlock]))
theorem box_below {W W' : World} {B : Nat} {t : TypeId} {v : Value} (h : Boxed W B t v) (hb : Below W.heap.size W W') : Boxed W' B t v := (hb.block B h.lt).trans h
theorem row_not {W : World} {base : Nat} {e : TypeId} {m k : Nat} {v : Value} {xs : List Value} (h : W.ownsRow base e m v k xs) {B : Nat} (hB : B < base) : some B ≠ v.ownBlock := by
  rcases h.2 with ⟨rfl, _⟩ | ⟨g, cap, cur, rfl, hg, _⟩
  · simp [Value.ownBlock]
  · simp [Value.ownBlock]; omega

theorem row_mono {W : World} {base base' : Nat} {e : TypeId} {m k : Nat} {v : Value} {xs : List Value} (h : W.ownsRow base e m v k xs) (hb : base' ≤ base) : W.ownsRow base' e m v k xs := by
  refine ⟨h.1, ?_⟩
  rcases h.2 with h0 | ⟨g, cap, cur, h1, h2, h3⟩
  · exact .inl h0
  · exact .inr ⟨g, cap, cur, h1, Nat.le_trans hb h2, h3⟩

/-- what holds between two rounds of Split -/
def SpI (w : World) (s : ByteArray) (pre : List Wd) (W : World) : Prop :=
  (∃ v, Boxed W w.heap.size 40 v ∧ W.ownsRow (w.heap.size + 2) 9 1 v pre.length (pre.map encW) ∧ True) ∧ Below w.heap.size w W ∧ Boxed W (w.heap.size + 1) 9 (.string s)

/-- the end of a round: behind the copy, the append and the store -/
theorem split_end {w W w1 w2 : World} {s : ByteArray} {pre : List Wd} {x : Wd} {v v' : Value} {tmp : Obj} (B : Nat)
    (hv : Boxed W w.heap.size 40 v) (hrow : W.ownsRow (w.heap.size + 2) 9 1 v pre.length (pre.map encW)) (hB : Below w.heap.size w W) (hN : Boxed W (w.heap.size + 1) 9 (.string s))
    (hb1 : Below W.heap.size W w1) (hown' : w2.ownsRow (w.heap.size + 2) 9 1 v' (pre.length + 1) (pre.map encW ++ [encW x])) (hgrow : (w1.alloc tmp).grownBy w2 v.ownBlock) :
    Boxed w2 w.heap.size 40 v ∧ KeepsFrom B W (w2.setCell ⟨w.heap.size, 0, none⟩ v') ∧ KpB (w.heap.size + 1) W (w2.setCell ⟨w.heap.size, 0, none⟩ v') ∧ SpI w s (pre ++ [x]) (w2.setCell ⟨w.heap.size, 0, none⟩ v') := by
  have hv1 := box_below hv hb1
  have hrow1 := row_below hrow hb1
  have hv2 : Boxed w2 w.heap.size 40 v := (hv1.alloc tmp).kept hgrow (row_not hrow1 (by omega))
  have hk : KpB (w.heap.size + 1) W (w2.setCell ⟨w.heap.size, 0, none⟩ v') := fun u hu => (((box_below hu hb1).alloc tmp).kept hgrow (row_not hrow1 (by omega))).other (by omega) v'
  have hks : KeepsOthers W (w2.setCell ⟨w.heap.size, 0, none⟩ v') := by
    refine (((keeps_below hb1).trans (KeepsOthers.alloc w1 tmp)).trans (KeepsOthers.of_grownBy hgrow fun j _ ej hj => ?_)).trans (KeepsOthers.setCell _ _ _)
    rcases (hrow1.alloc tmp).2 with ⟨rfl, _⟩ | ⟨g, cap, cur, rfl, _, hgb, _⟩
    · simp [Value.ownBlock] at ej
    · obtain rfl : g = j := by simpa [Value.ownBlock] using ej
      rw [hgb] at hj; cases hj; rfl
  have hsz := hN.lt
  have hb2 : Below w.heap.size w (w2.setCell ⟨w.heap.size, 0, none⟩ v') := by
    have hs1 := hb1.size
    refine (((hB.trans (hb1.mono hB.size)).alloc (by omega) tmp).grown hgrow (by simp; omega) fun j ej => ?_).setCell (p := ⟨w.heap.size, 0, none⟩) (Nat.le_refl _) v'
    rcases hrow1.2 with ⟨rfl, _⟩ | ⟨g, cap, cur, rfl, hb, _, _⟩
    · simp [Value.ownBlock] at ej
    · obtain rfl : g = j := by simpa [Value.ownBlock] using ej
      omega
  refine ⟨hv2, hks.from _, hk, ⟨v', hv2.set v', ?_, trivial⟩, hb2, hk _ hN⟩
  have := hown'.kept (grownBy_setCell' w2 w.heap.size v') (.inr (row_not hown' (by omega)).symm)
  simpa using this

set_option maxRecDepth 100000 in
set_option maxHeartbeats 2000000 in
theorem split_any (s : ByteArray) (hs : s.size ≤ 1000000) (w : World) :
    Calls Tryz.prog 113 #[.string s] w fun e W' => ∃ (v : Value) (ys : List Wd), e = .returned v ∧ ys.map bytesOf = words s.data.toList ∧ W'.ownsRow w.heap.size 9 1 v ys.length (ys.map encW) ∧ Below w.heap.size w W' := by
  obtain ⟨i0, hi, hz0, hz1, hz2⟩ := info_parts info9
  refine (callsIn_wide (n := 5)).1 ?_
  refine callsIn_of_wp_marks Tryz.func113 rfl trivial ?_ rfl
  simp only [Tryz.ntmps113, List.size_toArray, List.length_cons, List.length_nil, Nat.reduceAdd, Nat.reduceSub, Array.replicate_succ, Array.replicate_zero, List.push_toArray, List.append_toArray, List.nil_append, List.cons_append]
  gi_wp2_with (refine ⟨trivial, ?_⟩; gi_at_call 137; refine (callsIn_wide.2 (words_calls _ _)).mono ?_; rintro e w' ⟨rfl, rfl⟩)
  have bO := Boxed.new w 40 (.slice none 0 0)
  have bN := Boxed.new (w.alloc (.cells #[.slice none 0 0] 40)) 9 (.string s)
  rw [World.size_alloc] at bN
  have hB0 : Below w.heap.size w ((w.alloc (.cells #[.slice none 0 0] 40)).alloc (.cells #[.string s] 9)) := ((Below.refl _ w).alloc (Nat.le_refl _) _).alloc (by simp) _
  refine wpIn_rangeFunc_ownG rfl (by decide) (gf := 157) (lb := #[.pointer (some ⟨w.heap.size + 1, 0, none⟩)]) rfl trivial (enters_of Tryz.func157 (by kernel_rfl) rfl)
    (words_stops 4 (by decide) (w.heap.size + 1) s hs _ bN) (fun h k => KpB.t h k) (fun W l o o' _ h ho _ => KpB.b W l o o' h ho) (Below.refl _ _) (fun _ => rfl)
    (SpI w s) (fun _ _ _ => False)
    (OwnFrom.and (Own.from (holdsRow_own (w.heap.size + 2) w.heap.size 40 9 1 (fun pre : List Wd => pre.length) (fun pre => pre.map encW) (fun _ _ => True)) _) (OwnFrom.and (ownFrom_below (Nat.le_refl _) (by simp; omega)) (Own.from (boxed_own _ _ _) _)))
    (fun _ _ _ _ _ hs _ _ => hs)
    ⟨⟨_, bO.alloc _, World.ownsRow_nil _ _ _ _, trivial⟩, hB0, bN⟩
    (fun x => { tmps := #[.string s, undef, .slice none 0 0, .pointer (some ⟨w.heap.size, 0, none⟩), .string x.1, .string s, .func (.func 157) #[] #[.pointer (some ⟨w.heap.size + 1, 0, none⟩)], .string x.1, undef, undef, undef, undef, undef, undef], defers := [] }) ?assign ?body ?done ?stop
  case assign =>
    intro l x W K hK
    gi_wp2
    exact hK
  case body =>
    rintro l pre x W ⟨⟨v, hv, hrow, _⟩, hB, hN⟩ hlt
    have hc := hv.cell
    have hmx : Tryz.prog.follows .mixedOrders = true := by kernel_rfl
    gi_wp2
    refine wpIn_region_any hmx ?_
    change wpAnyIn _ _ _ _ _ _ _ _ _ (World.drew _)
    refine wpAnyIn_ready (rs := [0, 1]) (by kernel_rfl) (by simp) ?_
    refine AllReadyIn.cons rfl (fun K hK => ?_) (AllReadyIn.cons rfl (fun K hK => ?_) AllReadyIn.nil)
    go_simp
    refine hK _ _ ?_
    clear hK K
    refine wpAnyIn_ready (rs := [1]) (by kernel_rfl) (by simp) ?_
    refine AllReadyIn.cons rfl (fun K hK => ?_) AllReadyIn.nil
    go_simp
    refine hK _ _ ?_
    clear hK K
    refine wpAnyIn_ready (rs := [2]) (by kernel_rfl) (by simp) ?_
    refine AllReadyIn.cons rfl (fun K hK => ?_) AllReadyIn.nil
    go_simp
    refine ⟨trivial, ?_⟩
    refine (CallsIn.inRound l (callsIn_wide.2 (clone_any x.1 _ (by have := x.2; omega)))).mono ?_
    rintro e w1 ⟨rfl, hb⟩
    have hb1 : Below W.heap.size W w1 := (Below.refl _ W).drew.trans hb
    clear hb
    have hc1 := (box_below hv hb1).cell
    have hc2 := fun o => ((box_below hv hb1).alloc o).cell
    refine hK _ _ ?_
    clear hK K
    refine wpAnyIn_ready (rs := [3]) (by kernel_rfl) (by simp) ?_
    refine AllReadyIn.cons rfl (fun K hK => ?_) AllReadyIn.nil
    go_simp
    refine hK _ _ ?_
    clear hK K
    rotate_left
    go_simp
    refine hK _ _ ?_
    clear hK K
    refine wpAnyIn_ready (rs := [0, 2]) (by kernel_rfl) (by simp) ?_
    refine AllReadyIn.cons rfl (fun K hK => ?_) (AllReadyIn.cons rfl (fun K hK => ?_) AllReadyIn.nil)
    go_simp
    refine hK _ _ ?_
    clear hK K
    refine wpAnyIn_ready (rs := [2]) (by kernel_rfl) (by simp) ?_
    refine AllReadyIn.cons rfl (fun K hK => ?_) AllReadyIn.nil
    go_simp
    refine ⟨trivial, ?_⟩
    refine (CallsIn.inRound l (callsIn_wide.2 (clone_any x.1 _ (by have := x.2; omega)))).mono ?_
    rintro e w1 ⟨rfl, hb⟩
    have hb1 : Below W.heap.size W w1 := (Below.refl _ W).drew.trans hb
    clear hb
    have hc1 := (box_below hv hb1).cell
    have hc2 := fun o => ((box_below hv hb1).alloc o).cell
    refine hK _ _ ?_
    clear hK K
    refine wpAnyIn_ready (rs := [3]) (by kernel_rfl) (by simp) ?_
    refine AllReadyIn.cons rfl (fun K hK => ?_) AllReadyIn.nil
    go_simp
    refine hK _ _ ?_
    clear hK K
    rotate_left
    go_simp
    refine ⟨trivial, ?_⟩
    refine (CallsIn.inRound l (callsIn_wide.2 (clone_any x.1 _ (by have := x.2; omega)))).mono ?_
    rintro e w1 ⟨rfl, hb⟩
    have hb1 : Below W.heap.size W w1 := (Below.refl _ W).drew.trans hb
    clear hb
    have hc1 := (box_below hv hb1).cell
    have hc2 := fun o => ((box_below hv hb1).alloc o).cell
    refine hK _ _ ?_
    clear hK K
    refine wpAnyIn_ready (rs := [0, 3]) (by kernel_rfl) (by simp) ?_
    refine AllReadyIn.cons rfl (fun K hK => ?_) (AllReadyIn.cons rfl (fun K hK => ?_) AllReadyIn.nil)
    go_simp
    refine hK _ _ ?_
    clear hK K
    refine wpAnyIn_ready (rs := [3]) (by kernel_rfl) (by simp) ?_
    refine AllReadyIn.cons rfl (fun K hK => ?_) AllReadyIn.nil
    go_simp
    refine hK _ _ ?_
    clear hK K
    rotate_left
    go_simp
    refine hK _ _ ?_
    clear hK K
    refine wpAnyIn_ready (rs := [0]) (by kernel_rfl) (by simp) ?_
    refine AllReadyIn.cons rfl (fun K hK => ?_) AllReadyIn.nil
    go_simp
    refine hK _ _ ?_
    clear hK K
    all_goals
      have hpb : pre.length + 1 ≤ maxLen := by unfold maxLen; omega
      have hbb : (pre.length + 1) * 16 ≤ 140737488355328 := by omega
      have h2b : w.heap.size + 2 ≤ (w1.alloc (Obj.cells #[Value.string x.1] 9)).heap.size := by have := hN.lt; have := hb1.size; simp; omega
      refine wpAnyIn_ready (rs := [4]) (by kernel_rfl) (by simp) ?_
      refine AllReadyIn.cons rfl (fun K hK => ?_) AllReadyIn.nil
      refine stepIn_append_own (w1.alloc (Obj.cells #[Value.string x.1] 9)) rfl (.tmp 8) (.tmp 11) 40 rfl (w.heap.size + 2) 9 i0 (.string ⟨#[]⟩) 1 16 Tryz.underlying40 hi hz0 hz1 hz2 rfl (by decide) v pre.length (pre.map encW) rfl ((row_below hrow hb1).alloc _) ⟨w1.heap.size, 0, none⟩ 1 1 [encW x] rfl rfl (cell_one_new _ _ _) (by simp [Value.oneCell', encW]) hpb hbb h2b ?_
      intro v' w2 hown' hgrow _
      obtain ⟨g', cap', rfl⟩ := ownsRow_succ hown'
      obtain ⟨hv2, hkf, hkp, hsp⟩ := split_end ((w.alloc (Obj.cells #[Value.slice none 0 0] 40)).alloc (Obj.cells #[Value.string s] 9)).heap.size hv hrow hB hN hb1 hown' hgrow
      have hc3 := hv2.cell
      have hf3 := hv2.frozen
      refine hK _ _ ?_
      clear hK K
      refine wpAnyIn_ready (rs := [5]) (by kernel_rfl) (by simp) ?_
      refine AllReadyIn.cons rfl (fun K hK => ?_) AllReadyIn.nil
      go_simp
      refine hK _ _ ?_
      clear hK K
      refine wpAnyIn_done (by kernel_rfl) ?_ _
      exact ⟨hkf, hkp, hsp⟩
  case done =>
    rintro D ys W hD hys ⟨⟨v, hv, hrow, _⟩, hB, hN⟩ hK
    have hc := hv.cell
    gi_wp2
    refine ⟨by simp, .inl ⟨_, _, rfl, run_takeDeferred hK, ?_⟩⟩
    exact ⟨_, results_tmp rfl _ _ _, v, ys, rfl, hys, row_mono (ownsRow_putObj hrow _ hK rfl) (by omega), hB.trans (belowK_b (w := w) (Nat.le_refl _) W D _ _ (by simp at hD; omega) hK rfl rfl)⟩
  case stop =>
    rintro D c pre W _ _ h _
    exact h.elim
end Go.Proofs.YtabmnkddmdffkaaGreatDoor.Tx
namespace Go.Proofs.YtabmnkddmdffkaaGreatDoor.Tx
open Go.RowKit Go.Shelf

/-- the slice v holds the texts L, in a block that there is -/
def Strs (W : World) (v : Value) (L : List ByteArray) : Prop :=
  (v = .slice none 0 0 ∧ L = []) ∨ ∃ b off cap, v = .slice (some ⟨b, off, none⟩) L.length cap ∧ L.length ≤ cap ∧ cap ≤ maxLen ∧ b < W.heap.size ∧ ∀ j, j < L.length → W.cell? ⟨b, off + j, none⟩ = some (.string (L.getD j ⟨#[]⟩))
theorem Strs.below {W W' : World} {v : Value} {L : List ByteArray} (h : Strs W v L) (hb : Below W.heap.size W W') : Strs W' v L := by
  rcases h with h | ⟨b, off, cap, e, h1, h2, h3, h4⟩
  · exact .inl h
  · exact .inr ⟨b, off, cap, e, h1, h2, Nat.lt_of_lt_of_le h3 hb.size, fun j hj => (hb.cell (p := ⟨b, off + j, none⟩) h3).trans (h4 j hj)⟩
theorem Strs.len {W : World} {v : Value} {L : List ByteArray} (h : Strs W v L) : L.length ≤ maxLen := by
  rcases h with ⟨_, rfl⟩ | ⟨b, off, cap, e, h1, h2, _⟩
  · exact Nat.zero_le _
  · omega
theorem Strs.of_row {W : World} {base : Nat} {v : Value} {L : List ByteArray} (h : W.ownsRow base 9 1 v L.length (L.map Value.string)) : Strs W v L := by
  rcases h.2 with ⟨rfl, h0⟩ | ⟨g, cap, cur, rfl, hg, hgb, h1, h2, h3, h4⟩
  · exact .inl ⟨rfl, List.length_eq_zero_iff.1 h0⟩
  · refine .inr ⟨g, 0, cap, rfl, h1, h2, (Array.getElem?_eq_some_iff.1 hgb).1, fun j hj => ?_⟩
    have hj' : (L.map Value.string)[j]? = some (.string (L.getD j ⟨#[]⟩)) := by
      rw [List.getElem?_map, List.getD_eq_getElem?_getD, List.getElem?_eq_getElem hj]; rfl
    rw [← h4, List.getElem?_take_of_lt (by omega)] at hj'
    simp only [World.cell?, hgb, Nat.zero_add]
    simpa using hj'

theorem rblank_any (c : UInt8) (w : World) :
    Calls Tryz.prog 61 #[.int .u8 c.toNat] w fun e w' => e = .returned (.bool (bl c)) ∧ w' = w := by
  cases h : bl c with
  | true =>
    rcases bl_yes c h with e | e | e <;> rw [e]
    · go_enter Tryz.func61, Tryz.ntmps61
      go_wp2
      go_ret
      exact ⟨rfl, rfl⟩
    · go_enter Tryz.func61, Tryz.ntmps61
      go_wp2
      go_ret
      exact ⟨rfl, rfl⟩
    · go_enter Tryz.func61, Tryz.ntmps61
      go_wp2
      go_ret
      exact ⟨rfl, rfl⟩
  | false =>
    obtain ⟨h1, h2, h3⟩ := bl_no c h
    have k1 : ((c.toNat : Int) == 32) = false := beq_eq_false_iff_ne.2 (by omega)
    have k2 : ((c.toNat : Int) == 9) = false := beq_eq_false_iff_ne.2 (by omega)
    have k3 : ((c.toNat : Int) == 10) = false := beq_eq_false_iff_ne.2 (by omega)
    go_enter Tryz.func61, Tryz.ntmps61
    go_wp2
    go_ret
    exact ⟨rfl, rfl⟩

end Go.Proofs.YtabmnkddmdffkaaGreatDoor.Tx
