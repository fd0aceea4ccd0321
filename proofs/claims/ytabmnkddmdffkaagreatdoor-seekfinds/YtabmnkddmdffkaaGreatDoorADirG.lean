import Derived.Test.YtabmnkddmdffkaaGreatDoorARepG
import Derived.Test.YtabmnkddmdffkaaGreatDoorAWordG
import Derived.Deep.QuietTactic
import Derived.BigQuiet
import Derived.RangeFuncNested
import Derived.RangeFuncBound
import Derived.RangeFuncCalls
import Derived.RangeFuncLeaves
import Derived.RangeFuncBox
import Derived.Shelf.Abstract
import Derived.Shelf.RegionOpen
import Derived.WalkKit
import Derived.OwnWalkIn
import Derived.TacticsInMore
import Derived.LoopNIn
import Derived.LoopIn
import Derived.Lib.Strings
import Derived.Lib.Bytealg
import Derived.Test.YtabmnkddmdffkaaGreatDoorProg
import Derived.WalkSpells
import Derived.WalkLawsBesides
import Derived.WalkMore
import Derived.Lib.IndexBytes
namespace Go.Proofs.YtabmnkddmdffkaaGreatDoor.Tx
open Go.RowKit Go.Shelf
attribute [local go_sem] Oper.semAt_some
abbrev Wd := { x : ByteArray // x.size ≤ 1000000 }
def bytesOf (x : Wd) : List UInt8 := x.1.data.toList
def KpB (Bs : Nat) (A B : World) : Prop := ∀ v, Boxed A Bs 9 v → Boxed B Bs 9 v
theorem KpB.t {Bs : Nat} {A B C : World} (h : KpB Bs A B) (k : KpB Bs B C) : KpB Bs A C := fun v hv => k v (h v hv)
theorem KpB.b {Bs : Nat} (W : World) (l : Nat) (o o' : Obj) (h : W.heap[l]? = some o) (ho : o.isCells = false) : KpB Bs W (W.putObj l o') := fun v hv =>
 hv.kept (grownBy_putObj' W l o') (fun e => by
  have e' : Bs = l := by simpa using e
  subst e'
  rw [show W.heap[Bs]? = _ from hv] at h
  cases h; cases ho)
theorem hide' {p : Prop} (h : p) : Hid p := h
theorem words_calls (s : ByteArray) (w : World) :
  Calls Tryz.prog 137 #[.string s] w fun e w' => e = .returned (.func (.func 157) #[] #[.pointer (some ⟨w.heap.size, 0, none⟩)]) ∧ w' = w.alloc (.cells #[.string s] 9) := by
 go_enter Tryz.func137, Tryz.ntmps137
 go_wp2
 go_ret
 exact ⟨rfl, rfl⟩
set_option maxRecDepth 100000 in
set_option maxHeartbeats 1000000 in
theorem words1_in (n : Nat) (hn : 1 ≤ n) (l Bs : Nat) (s : ByteArray) (hs : s.size ≤ 1000000) (J Jx : List Wd → World → Prop)
  (hY : ∀ pre x W, J pre W → pre.length < s.size → YieldAt Fence.wide (n - 1) Tryz.prog l #[.string x.1] W fun e W' =>
   (e = .returned (.bool true) ∧ J (pre ++ [x]) W' ∧ KpB Bs W W') ∨ (e = .returned (.bool false) ∧ Jx (pre ++ [x]) W'))
  (W : World) (hB : Boxed W Bs 9 (.string s)) (h0 : J [] W) :
  CallsIn Fence.wide n Tryz.prog 157 #[.func (.yield l) #[] #[], .pointer (some ⟨Bs, 0, none⟩)] W fun e W' => (∃ v, e = .returned v) ∧
   ((∃ ys, ys.map bytesOf = words s.data.toList ∧ J ys W') ∨ (∃ pre, True ∧ Jx pre W')) := by
 refine callsIn_of_wp Tryz.func157 rfl trivial ?_ rfl
 simp only [Tryz.ntmps157, List.size_toArray, List.length_cons, List.length_nil, Nat.reduceAdd, Nat.reduceSub, Array.replicate_succ, Array.replicate_zero, List.push_toArray, List.append_toArray, List.nil_append, List.cons_append]
 gi_wp2
 gi_loopw [3] (fun p wr => ∃ (k : Nat) (pre : List Wd), k ≤ s.size ∧ pre.length ≤ k ∧ p = .int .i64 k ∧ Boxed wr Bs 9 (.string s) ∧ Hid (pre.map bytesOf ++ words (s.data.toList.drop k) = words s.data.toList) ∧ J pre wr)
  (fun p _ => s.size - (intOf p).toNat)
 case atStart => exact ⟨0, [], Nat.zero_le _, Nat.le_refl _, rfl, hB, rfl, h0⟩
 case round =>
  obtain ⟨k, pre, hk, hpl, rfl, hBx, HW, hJs⟩ := hrel
  have hc := hBx.cell
  by_cases hlt : k < s.size
  ·cases hb : bl s[k] with
   | true =>
    have kb : ∀ w, Calls Tryz.prog 158 #[.int .u8 s[k].toNat] w fun e w' => e = .returned (.bool true) ∧ w' = w := fun w => by have := blank_any s[k] w; rwa [hb] at this
    have hw := words_blank s[k] (s.data.toList.drop (k + 1)) hb
    rw [← drop_at s k hlt] at hw
    have HW' : Hid (pre.map bytesOf ++ words (s.data.toList.drop (k + 1)) = words s.data.toList) := by rw [← hw]; exact HW
    clear hw hb HW
    gi_wp2_with (refine ⟨trivial, ?_⟩; gi_at_call 158; refine (callsIn_wide.2 (kb _)).mono ?_; rintro e w' ⟨rfl, rfl⟩)
    exact ⟨⟨k + 1, pre, by omega, by omega, by go_num, hBx, HW', hJs⟩, by simp [intOf]; omega⟩
   | false =>
    have kb : ∀ w, Calls Tryz.prog 158 #[.int .u8 s[k].toNat] w fun e w' => e = .returned (.bool false) ∧ w' = w := fun w => by have := blank_any s[k] w; rwa [hb] at this
    have hw1 : 0 < wl (s.data.toList.drop k) := by rw [drop_at s k hlt, wl_cons _ _ hb]; omega
    have hw2 := wl_le (s.data.toList.drop k)
    have hw3 : wend s.data.toList k ≤ s.size := by unfold wend; simp at hw2; omega
    have hw4 : k < wend s.data.toList k := by unfold wend; omega
    have ke := wordEnd_any s k
    have hx : ∀ e, e = wend s.data.toList k → (s.extract k e).data.toList = (s.data.toList.drop k).take (wl (s.data.toList.drop k)) := by
     rintro e rfl
     rw [Lib.extract_data]
     congr 1
     unfold wend
     omega
    have hw := words_at _ hw1
    rw [List.drop_drop, show k + wl (s.data.toList.drop k) = wend s.data.toList k from rfl] at hw
    obtain ⟨e, he⟩ : ∃ e, e = wend s.data.toList k := ⟨_, rfl⟩
    rw [← he] at hw hw3 hw4 ke
    have hx' := hx e he
    have hsz : (s.extract k e).size ≤ 1000000 := by rw [ByteArray.size_extract]; omega
    have HW' : Hid ((pre ++ [(⟨s.extract k e, hsz⟩ : Wd)]).map bytesOf ++ words (s.data.toList.drop e) = words s.data.toList) := by
     show _ = _
     rw [← HW.out, hw]
     rw [List.map_append, List.map_singleton, show bytesOf ⟨s.extract k e, hsz⟩ = _ from hx', List.append_assoc, List.singleton_append]
    clear hw hb HW hx hx' hw1 hw2 he
    obtain ⟨fn, tmps, assign, body, hy, hR⟩ := hY pre ⟨s.extract k e, hsz⟩ wr hJs (by omega)
    dsimp only at hy
    gi_wp2_with (first | (refine ⟨trivial, ?_⟩; gi_at_call 158; refine (callsIn_wide.2 (kb _)).mono ?_; rintro e w' ⟨rfl, rfl⟩) | (refine ⟨trivial, ?_⟩; gi_at_call 159; refine (callsIn_wide.2 (ke _ (by unfold maxLen; omega) (by omega))).mono ?_; rintro e w' ⟨rfl, rfl⟩))
    refine hR.mono ?_
    rintro e' W3 (⟨rfl, hJ3, hk3⟩ | ⟨rfl, hJx3⟩)
    ·have hB3 := hk3 _ hBx
     gi_wp2
     exact ⟨⟨e, _, by omega, by simp; omega, rfl, hB3, HW', hJ3⟩, by simp [intOf]; omega⟩
    ·gi_wp2
     refine bodyPost_ret (results_none rfl _ _ _) rfl ?_
     exact ⟨⟨_, rfl⟩, .inr ⟨_, trivial, hJx3⟩⟩
  ·have hfin : pre.map bytesOf = words s.data.toList := by rw [← HW.out, drop_end s k hlt, words_nil, List.append_nil]
   have HF := hide' hfin
   clear hfin HW
   gi_wp2
   go_end0
   exact ⟨⟨_, rfl⟩, .inl ⟨pre, HF.out, hJs⟩⟩
theorem words_stops (n : Nat) (hn : 1 ≤ n) (Bs : Nat) (s : ByteArray) (hs : s.size ≤ 1000000) (w : World) (hB : Boxed w Bs 9 (.string s)) :
  SeqStopsK Fence.wide n Tryz.prog 157 #[.pointer (some ⟨Bs, 0, none⟩)] (fun x : Wd => #[Value.string x.1]) (KpB Bs) (fun ys => ys.map bytesOf = words s.data.toList) (fun _ => True) s.size w := fun l J Jx W hW _ _ hY h0 =>
 words1_in n hn l Bs s hs J Jx hY W ((hW.block Bs hB.lt).trans hB) h0
end Go.Proofs.YtabmnkddmdffkaaGreatDoor.Tx
namespace Go.Proofs.YtabmnkddmdffkaaGreatDoor.Tx
open Go.RowKit Go.Shelf
attribute [local go_sem] Oper.semAt_some
theorem stepIn_append_own {F : Fence} {n : Nat} {P : Program} (w : World) {ops : Array Oper} {o : Oper} {a : Act} {K : Act → World → Prop} {Q : Exit → Act → World → Prop} {E : Prop}
  (hg : o.guard = none) (s x : Operand) (t : TypeId) (hop : o.op = Op.call { callee := Callee.builtin Builtin.append, args := #[s, x], argTypes := #[t, t] })
  (base : Nat) (e : TypeId) (i : TypeInfo) (z : Value) (size bytes : Nat) (h1 : P.underlying t = some (.slice e)) (h2 : P.info? e = some i) (h3 : i.zero = some z) (h4 : i.size = size) (h5 : i.bytes = bytes) (h6 : z.cells.size = size) (h7 : 0 < size)
  (v : Value) (k : Nat) (xs : List Value) (hs : a.eval s = v) (hown : w.ownsRow base e size v k xs) (ad : Addr) (m c : Nat) (news : List Value) (hx : a.eval x = .slice (some ad) m c) (hn : news.length = m * size)
  (hc : ∀ j u, news[j]? = some u → w.cell? (ad.add j) = some u) (h1c : ∀ u ∈ news, u.oneCell' = true) (b1 : k + m ≤ maxLen) (b2 : (k + m) * bytes ≤ 140737488355328) (b3 : base ≤ w.heap.size)
  (hK : ∀ v' w', w'.ownsRow base e size v' (k + m) (xs ++ news) → w.grownBy w' v.ownBlock → (v' = .slice none 0 0 ↔ v = .slice none 0 0 ∧ m = 0) → K (a.put o.dst v') w') :
  if Region.wanted o (yielded ops a.tmps) = true then Oper.wpIn F n P o a w K Q else E := by
 have hw : Region.wanted o (yielded ops a.tmps) = true := by simp [Region.wanted, hg]
 rw [if_pos hw]
 obtain ⟨v', w', hrun, r1, r2, r3⟩ := run_append_own (P := P) w base t o.type e i z size bytes h1 h2 h3 h4 h5 h6 h7 v k xs hown ad m c news hn hc h1c b1 b2 b3
 unfold Oper.wpIn
 refine ⟨?_, ?_⟩
 ·simp [Oper.about, hop, resolve, Target.leads, Sem.run_pure]
 ·rw [Oper.semAt_plain F _ _ (by rw [hop]; intro c hc'; cases hc')]
  simp [execOp, hop, resolve, invoke, builtin, hs, hx, hrun, Result.andThen]
  exact hK v' w' r1 r2 r3
theorem info9 : (Tryz.prog.info? 9).map (fun i : TypeInfo => (i.zero, i.size, i.bytes)) = some (some (.string ⟨#[]⟩), 1, 16) := by kernel_rfl
def encW (x : Wd) : Value := .string x.1
theorem below_grown {w w' : World} (h : Below w.heap.size w w') : w.grownBy w' none := ⟨h.os, h.tape, h.output, h.size, fun k hk _ => h.block k hk⟩
theorem keeps_below {w w' : World} (h : Below w.heap.size w w') : KeepsOthers w w' := ⟨h.size, fun k _ hk _ => (h.block k (Array.getElem?_eq_some_iff.1 hk).1).trans hk⟩
theorem row_below {B : Nat} {e : TypeId} {m k : Nat} {v : Value} {xs : List Value} {w w' : World} (h : w.ownsRow B e m v k xs) (hb : Below w.heap.size w w') : w'.ownsRow B e m v k xs := h.kept (below_grown hb) (by
 rcases h.2 with ⟨rfl, _⟩ | ⟨g, cap, cur, rfl, _⟩
 ·exact .inl rfl
 ·exact .inr (by simp [Value.ownBlock]))
theorem box_below {W W' : World} {B : Nat} {t : TypeId} {v : Value} (h : Boxed W B t v) (hb : Below W.heap.size W W') : Boxed W' B t v := (hb.block B h.lt).trans h
theorem row_not {W : World} {base : Nat} {e : TypeId} {m k : Nat} {v : Value} {xs : List Value} (h : W.ownsRow base e m v k xs) {B : Nat} (hB : B < base) : some B ≠ v.ownBlock := by
 rcases h.2 with ⟨rfl, _⟩ | ⟨g, cap, cur, rfl, hg, _⟩
 ·simp [Value.ownBlock]
 ·simp [Value.ownBlock]; omega
theorem row_mono {W : World} {base base' : Nat} {e : TypeId} {m k : Nat} {v : Value} {xs : List Value} (h : W.ownsRow base e m v k xs) (hb : base' ≤ base) : W.ownsRow base' e m v k xs := by
 refine ⟨h.1, ?_⟩
 rcases h.2 with h0 | ⟨g, cap, cur, h1, h2, h3⟩
 ·exact .inl h0
 ·exact .inr ⟨g, cap, cur, h1, Nat.le_trans hb h2, h3⟩
def SpI (w : World) (s : ByteArray) (pre : List Wd) (W : World) : Prop :=
 (∃ v, Boxed W w.heap.size 40 v ∧ W.ownsRow (w.heap.size + 2) 9 1 v pre.length (pre.map encW) ∧ True) ∧ Below w.heap.size w W ∧ Boxed W (w.heap.size + 1) 9 (.string s)
theorem split_end {w W w1 w2 : World} {s : ByteArray} {pre : List Wd} {x : Wd} {v v' : Value} {tmp : Obj} (B : Nat)
  (hv : Boxed W w.heap.size 40 v) (hrow : W.ownsRow (w.heap.size + 2) 9 1 v pre.length (pre.map encW)) (hB : Below w.heap.size w W) (hN : Boxed W (w.heap.size + 1) 9 (.string s))
  (hb1 : Below W.heap.size W w1) (hown' : w2.ownsRow (w.heap.size + 2) 9 1 v' (pre.length + 1) (pre.map encW ++ [encW x])) (hgrow : (w1.alloc tmp).grownBy w2 v.ownBlock) :
  Boxed w2 w.heap.size 40 v ∧ KeepsFrom B W (w2.setCell ⟨w.heap.size, 0, none⟩ v') ∧ KpB (w.heap.size + 1) W (w2.setCell ⟨w.heap.size, 0, none⟩ v') ∧ SpI w s (pre ++ [x]) (w2.setCell ⟨w.heap.size, 0, none⟩ v') := by
 have hv1 := box_below hv hb1
 have hrow1 := row_below hrow hb1
 have hv2 : Boxed w2 w.heap.size 40 v := (hv1.alloc tmp).kept hgrow (row_not hrow1 (by omega))
 have hk : KpB (w.heap.size + 1) W (w2.setCell ⟨w.heap.size, 0, none⟩ v') := fun u hu => (((box_below hu hb1).alloc tmp).kept hgrow (row_not hrow1 (by omega))).other (by omega) v'
 have hks : KeepsOthers W (w2.setCell ⟨w.heap.size, 0, none⟩ v') := by
  refine (((keeps_below hb1).trans (KeepsOthers.alloc w1 tmp)).trans (KeepsOthers.of_grownBy hgrow fun j _ ej hj => ?_)).trans (KeepsOthers.setCell _ _ _)
  rcases (hrow1.alloc tmp).2 with ⟨rfl, _⟩ | ⟨g, cap, cur, rfl, _, hgb, _⟩
  ·simp [Value.ownBlock] at ej
  ·obtain rfl : g = j := by simpa [Value.ownBlock] using ej
   rw [hgb] at hj; cases hj; rfl
 have hsz := hN.lt
 have hb2 : Below w.heap.size w (w2.setCell ⟨w.heap.size, 0, none⟩ v') := by
  have hs1 := hb1.size
  refine (((hB.trans (hb1.mono hB.size)).alloc (by omega) tmp).grown hgrow (by simp; omega) fun j ej => ?_).setCell (p := ⟨w.heap.size, 0, none⟩) (Nat.le_refl _) v'
  rcases hrow1.2 with ⟨rfl, _⟩ | ⟨g, cap, cur, rfl, hb, _, _⟩
  ·simp [Value.ownBlock] at ej
  ·obtain rfl : g = j := by simpa [Value.ownBlock] using ej
   omega
 refine ⟨hv2, hks.from _, hk, ⟨v', hv2.set v', ?_, trivial⟩, hb2, hk _ hN⟩
 have := hown'.kept (grownBy_setCell' w2 w.heap.size v') (.inr (row_not hown' (by omega)).symm)
 simpa using this
set_option maxRecDepth 100000 in
set_option maxHeartbeats 2000000 in
theorem split_any (s : ByteArray) (hs : s.size ≤ 1000000) (w : World) :
  Calls Tryz.prog 113 #[.string s] w fun e W' => ∃ (v : Value) (ys : List Wd), e = .returned v ∧ ys.map bytesOf = words s.data.toList ∧ W'.ownsRow w.heap.size 9 1 v ys.length (ys.map encW) ∧ Below w.heap.size w W' := by
 obtain ⟨i0, hi, hz0, hz1, hz2⟩ := info_parts info9
 refine (callsIn_wide (n := 5)).1 ?_
 refine callsIn_of_wp_marks Tryz.func113 rfl trivial ?_ rfl
 simp only [Tryz.ntmps113, List.size_toArray, List.length_cons, List.length_nil, Nat.reduceAdd, Nat.reduceSub, Array.replicate_succ, Array.replicate_zero, List.push_toArray, List.append_toArray, List.nil_append, List.cons_append]
 gi_wp2_with (refine ⟨trivial, ?_⟩; gi_at_call 137; refine (callsIn_wide.2 (words_calls _ _)).mono ?_; rintro e w' ⟨rfl, rfl⟩)
 have bO := Boxed.new w 40 (.slice none 0 0)
 have bN := Boxed.new (w.alloc (.cells #[.slice none 0 0] 40)) 9 (.string s)
 rw [World.size_alloc] at bN
 have hB0 : Below w.heap.size w ((w.alloc (.cells #[.slice none 0 0] 40)).alloc (.cells #[.string s] 9)) := ((Below.refl _ w).alloc (Nat.le_refl _) _).alloc (by simp) _
 refine wpIn_rangeFunc_ownG rfl (by decide) (gf := 157) (lb := #[.pointer (some ⟨w.heap.size + 1, 0, none⟩)]) rfl trivial (enters_of Tryz.func157 (by kernel_rfl) rfl)
  (words_stops 4 (by decide) (w.heap.size + 1) s hs _ bN) (fun h k => KpB.t h k) (fun W l o o' _ h ho _ => KpB.b W l o o' h ho) (Below.refl _ _) (fun _ => rfl)
  (SpI w s) (fun _ _ _ => False)
  (OwnFrom.and (Own.from (holdsRow_own (w.heap.size + 2) w.heap.size 40 9 1 (fun pre : List Wd => pre.length) (fun pre => pre.map encW) (fun _ _ => True)) _) (OwnFrom.and (ownFrom_below (Nat.le_refl _) (by simp; omega)) (Own.from (boxed_own _ _ _) _)))
  (fun _ _ _ _ _ hs _ _ => hs)
  ⟨⟨_, bO.alloc _, World.ownsRow_nil _ _ _ _, trivial⟩, hB0, bN⟩
  (fun x => { tmps := #[.string s, undef, .slice none 0 0, .pointer (some ⟨w.heap.size, 0, none⟩), .string x.1, .string s, .func (.func 157) #[] #[.pointer (some ⟨w.heap.size + 1, 0, none⟩)], .string x.1, undef, undef, undef, undef, undef, undef], defers := [] }) ?assign ?body ?done ?stop
 case assign =>
  intro l x W K hK
  gi_wp2
  exact hK
 case body =>
  rintro l pre x W ⟨⟨v, hv, hrow, _⟩, hB, hN⟩ hlt
  have hc := hv.cell
  have hmx : Tryz.prog.follows .mixedOrders = true := by kernel_rfl
  gi_wp2
  refine wpIn_region_any hmx ?_
  change wpAnyIn _ _ _ _ _ _ _ _ _ (World.drew _)
  refine wpAnyIn_ready (rs := [0, 1]) (by kernel_rfl) (by simp) ?_
  refine AllReadyIn.cons rfl (fun K hK => ?_) (AllReadyIn.cons rfl (fun K hK => ?_) AllReadyIn.nil)
  go_simp
  refine hK _ _ ?_
  clear hK K
  refine wpAnyIn_ready (rs := [1]) (by kernel_rfl) (by simp) ?_
  refine AllReadyIn.cons rfl (fun K hK => ?_) AllReadyIn.nil
  go_simp
  refine hK _ _ ?_
  clear hK K
  refine wpAnyIn_ready (rs := [2]) (by kernel_rfl) (by simp) ?_
  refine AllReadyIn.cons rfl (fun K hK => ?_) AllReadyIn.nil
  go_simp
  refine ⟨trivial, ?_⟩
  refine (CallsIn.inRound l (callsIn_wide.2 (clone_any x.1 _ (by have := x.2; omega)))).mono ?_
  rintro e w1 ⟨rfl, hb⟩
  have hb1 : Below W.heap.size W w1 := (Below.refl _ W).drew.trans hb
  clear hb
  have hc1 := (box_below hv hb1).cell
  have hc2 := fun o => ((box_below hv hb1).alloc o).cell
  refine hK _ _ ?_
  clear hK K
  refine wpAnyIn_ready (rs := [3]) (by kernel_rfl) (by simp) ?_
  refine AllReadyIn.cons rfl (fun K hK => ?_) AllReadyIn.nil
  go_simp
  refine hK _ _ ?_
  clear hK K
  rotate_left
  go_simp
  refine hK _ _ ?_
  clear hK K
  refine wpAnyIn_ready (rs := [0, 2]) (by kernel_rfl) (by simp) ?_
  refine AllReadyIn.cons rfl (fun K hK => ?_) (AllReadyIn.cons rfl (fun K hK => ?_) AllReadyIn.nil)
  go_simp
  refine hK _ _ ?_
  clear hK K
  refine wpAnyIn_ready (rs := [2]) (by kernel_rfl) (by simp) ?_
  refine AllReadyIn.cons rfl (fun K hK => ?_) AllReadyIn.nil
  go_simp
  refine ⟨trivial, ?_⟩
  refine (CallsIn.inRound l (callsIn_wide.2 (clone_any x.1 _ (by have := x.2; omega)))).mono ?_
  rintro e w1 ⟨rfl, hb⟩
  have hb1 : Below W.heap.size W w1 := (Below.refl _ W).drew.trans hb
  clear hb
  have hc1 := (box_below hv hb1).cell
  have hc2 := fun o => ((box_below hv hb1).alloc o).cell
  refine hK _ _ ?_
  clear hK K
  refine wpAnyIn_ready (rs := [3]) (by kernel_rfl) (by simp) ?_
  refine AllReadyIn.cons rfl (fun K hK => ?_) AllReadyIn.nil
  go_simp
  refine hK _ _ ?_
  clear hK K
  rotate_left
  go_simp
  refine ⟨trivial, ?_⟩
  refine (CallsIn.inRound l (callsIn_wide.2 (clone_any x.1 _ (by have := x.2; omega)))).mono ?_
  rintro e w1 ⟨rfl, hb⟩
  have hb1 : Below W.heap.size W w1 := (Below.refl _ W).drew.trans hb
  clear hb
  have hc1 := (box_below hv hb1).cell
  have hc2 := fun o => ((box_below hv hb1).alloc o).cell
  refine hK _ _ ?_
  clear hK K
  refine wpAnyIn_ready (rs := [0, 3]) (by kernel_rfl) (by simp) ?_
  refine AllReadyIn.cons rfl (fun K hK => ?_) (AllReadyIn.cons rfl (fun K hK => ?_) AllReadyIn.nil)
  go_simp
  refine hK _ _ ?_
  clear hK K
  refine wpAnyIn_ready (rs := [3]) (by kernel_rfl) (by simp) ?_
  refine AllReadyIn.cons rfl (fun K hK => ?_) AllReadyIn.nil
  go_simp
  refine hK _ _ ?_
  clear hK K
  rotate_left
  go_simp
  refine hK _ _ ?_
  clear hK K
  refine wpAnyIn_ready (rs := [0]) (by kernel_rfl) (by simp) ?_
  refine AllReadyIn.cons rfl (fun K hK => ?_) AllReadyIn.nil
  go_simp
  refine hK _ _ ?_
  clear hK K
  all_goals
   have hpb : pre.length + 1 ≤ maxLen := by unfold maxLen; omega
   have hbb : (pre.length + 1) * 16 ≤ 140737488355328 := by omega
   have h2b : w.heap.size + 2 ≤ (w1.alloc (Obj.cells #[Value.string x.1] 9)).heap.size := by have := hN.lt; have := hb1.size; simp; omega
   refine wpAnyIn_ready (rs := [4]) (by kernel_rfl) (by simp) ?_
   refine AllReadyIn.cons rfl (fun K hK => ?_) AllReadyIn.nil
   refine stepIn_append_own (w1.alloc (Obj.cells #[Value.string x.1] 9)) rfl (.tmp 8) (.tmp 11) 40 rfl (w.heap.size + 2) 9 i0 (.string ⟨#[]⟩) 1 16 Tryz.underlying40 hi hz0 hz1 hz2 rfl (by decide) v pre.length (pre.map encW) rfl ((row_below hrow hb1).alloc _) ⟨w1.heap.size, 0, none⟩ 1 1 [encW x] rfl rfl (cell_one_new _ _ _) (by simp [Value.oneCell', encW]) hpb hbb h2b ?_
   intro v' w2 hown' hgrow _
   obtain ⟨g', cap', rfl⟩ := ownsRow_succ hown'
   obtain ⟨hv2, hkf, hkp, hsp⟩ := split_end ((w.alloc (Obj.cells #[Value.slice none 0 0] 40)).alloc (Obj.cells #[Value.string s] 9)).heap.size hv hrow hB hN hb1 hown' hgrow
   have hc3 := hv2.cell
   have hf3 := hv2.frozen
   refine hK _ _ ?_
   clear hK K
   refine wpAnyIn_ready (rs := [5]) (by kernel_rfl) (by simp) ?_
   refine AllReadyIn.cons rfl (fun K hK => ?_) AllReadyIn.nil
   go_simp
   refine hK _ _ ?_
   clear hK K
   refine wpAnyIn_done (by kernel_rfl) ?_ _
   exact ⟨hkf, hkp, hsp⟩
 case done =>
  rintro D ys W hD hys ⟨⟨v, hv, hrow, _⟩, hB, hN⟩ hK
  have hc := hv.cell
  gi_wp2
  refine ⟨by simp, .inl ⟨_, _, rfl, run_takeDeferred hK, ?_⟩⟩
  exact ⟨_, results_tmp rfl _ _ _, v, ys, rfl, hys, row_mono (ownsRow_putObj hrow _ hK rfl) (by omega), hB.trans (belowK_b (w := w) (Nat.le_refl _) W D _ _ (by simp at hD; omega) hK rfl rfl)⟩
 case stop =>
  rintro D c pre W _ _ h _
  exact h.elim
end Go.Proofs.YtabmnkddmdffkaaGreatDoor.Tx
namespace Go.Proofs.YtabmnkddmdffkaaGreatDoor.Tx
open Go.RowKit Go.Shelf
def Strs (W : World) (v : Value) (L : List ByteArray) : Prop :=
 (v = .slice none 0 0 ∧ L = []) ∨ ∃ b off cap, v = .slice (some ⟨b, off, none⟩) L.length cap ∧ L.length ≤ cap ∧ cap ≤ maxLen ∧ b < W.heap.size ∧ ∀ j, j < L.length → W.cell? ⟨b, off + j, none⟩ = some (.string (L.getD j ⟨#[]⟩))
theorem Strs.of_row {W : World} {base : Nat} {v : Value} {L : List ByteArray} (h : W.ownsRow base 9 1 v L.length (L.map Value.string)) : Strs W v L := by
 rcases h.2 with ⟨rfl, h0⟩ | ⟨g, cap, cur, rfl, hg, hgb, h1, h2, h3, h4⟩
 ·exact .inl ⟨rfl, List.length_eq_zero_iff.1 h0⟩
 ·refine .inr ⟨g, 0, cap, rfl, h1, h2, (Array.getElem?_eq_some_iff.1 hgb).1, fun j hj => ?_⟩
  have hj' : (L.map Value.string)[j]? = some (.string (L.getD j ⟨#[]⟩)) := by
   rw [List.getElem?_map, List.getD_eq_getElem?_getD, List.getElem?_eq_getElem hj]; rfl
  rw [← h4, List.getElem?_take_of_lt (by omega)] at hj'
  simp only [World.cell?, hgb, Nat.zero_add]
  simpa using hj'
theorem rblank_any (c : UInt8) (w : World) :
  Calls Tryz.prog 61 #[.int .u8 c.toNat] w fun e w' => e = .returned (.bool (bl c)) ∧ w' = w := by
 cases h : bl c with
 | true =>
  rcases bl_yes c h with e | e | e <;> rw [e]
  ·go_enter Tryz.func61, Tryz.ntmps61
   go_wp2
   go_ret
   exact ⟨rfl, rfl⟩
  ·go_enter Tryz.func61, Tryz.ntmps61
   go_wp2
   go_ret
   exact ⟨rfl, rfl⟩
  ·go_enter Tryz.func61, Tryz.ntmps61
   go_wp2
   go_ret
   exact ⟨rfl, rfl⟩
 | false =>
  obtain ⟨h1, h2, h3⟩ := bl_no c h
  have k1 : ((c.toNat : Int) == 32) = false := beq_eq_false_iff_ne.2 (by omega)
  have k2 : ((c.toNat : Int) == 9) = false := beq_eq_false_iff_ne.2 (by omega)
  have k3 : ((c.toNat : Int) == 10) = false := beq_eq_false_iff_ne.2 (by omega)
  go_enter Tryz.func61, Tryz.ntmps61
  go_wp2
  go_ret
  exact ⟨rfl, rfl⟩
end Go.Proofs.YtabmnkddmdffkaaGreatDoor.Tx
namespace Go.Proofs.YtabmnkddmdffkaaGreatDoor.Sk
open Go.RowKit
def isBook : Obj → Bool
 | .loop _ => true
 | .deferred _ => true
 | _ => false
structure Kp (n : Nat) (A B : World) : Prop where
 size : A.heap.size ≤ B.heap.size
 up : ∀ k, n ≤ k → k < A.heap.size → B.heap[k]? = A.heap[k]?
 low : ∀ (k : Nat) (o : Obj), A.heap[k]? = some o → isBook o = false → B.heap[k]? = some o
structure Kx (n : Nat) (A B : World) : Prop where
 size : A.heap.size ≤ B.heap.size
 up : ∀ k, n ≤ k → k < A.heap.size → B.heap[k]? = A.heap[k]?
theorem Kp.x {n : Nat} {A B : World} (h : Kp n A B) : Kx n A B := ⟨h.size, h.up⟩
theorem Kp.refl (n : Nat) (A : World) : Kp n A A := ⟨Nat.le_refl _, fun _ _ _ => rfl, fun _ _ h _ => h⟩
theorem Kp.trans {n : Nat} {A B C : World} (h : Kp n A B) (k : Kp n B C) : Kp n A C :=
 ⟨Nat.le_trans h.size k.size, fun i hi hl => (k.up i hi (Nat.lt_of_lt_of_le hl h.size)).trans (h.up i hi hl), fun i o hi ho => k.low i o (h.low i o hi ho) ho⟩
theorem Kx.trans {n : Nat} {A B C : World} (h : Kx n A B) (k : Kx n B C) : Kx n A C :=
 ⟨Nat.le_trans h.size k.size, fun i hi hl => (k.up i hi (Nat.lt_of_lt_of_le hl h.size)).trans (h.up i hi hl)⟩
theorem Kp.mono {n m : Nat} {A B : World} (h : Kp n A B) (hm : n ≤ m) : Kp m A B := ⟨h.size, fun k hk hl => h.up k (Nat.le_trans hm hk) hl, h.low⟩
theorem Kx.mono {n m : Nat} {A B : World} (h : Kx n A B) (hm : n ≤ m) : Kx m A B := ⟨h.size, fun k hk hl => h.up k (Nat.le_trans hm hk) hl⟩
theorem Kp.below {n : Nat} {A B : World} (h : Below A.heap.size A B) : Kp n A B :=
 ⟨h.size, fun k _ hl => h.block k hl, fun k _ hk _ => (h.block k (Array.getElem?_eq_some_iff.1 hk).1).trans hk⟩
def SeqL {α : Type} (n : Nat) (P : Program) (g : Nat) (lb : Array Value) (encs : α → Array Value) (Pf : List α → α → Prop) (S Sp : List α → Prop) (w : World) : Prop :=
 ∀ (l : Nat) (J Jx : List α → World → Prop) (W : World), Below w.heap.size w W → (∀ pre A B, J pre A → Below W.heap.size A B → J pre B) → (∀ pre A B, Jx pre A → Below W.heap.size A B → Jx pre B) →
  (∀ pre x W1, Pf pre x → W.heap.size ≤ W1.heap.size → J pre W1 → YieldAt Fence.wide (n - 1) P l (encs x) W1 fun e W' =>
   (e = .returned (.bool true) ∧ J (pre ++ [x]) W' ∧ Kp W.heap.size W1 W') ∨ (e = .returned (.bool false) ∧ Jx (pre ++ [x]) W' ∧ Kx W.heap.size W1 W')) →
  J [] W →
  CallsIn Fence.wide n P g (#[.func (.yield l) #[] #[]] ++ lb) W fun e W' => (∃ v, e = .returned v) ∧ ((∃ ys, S ys ∧ J ys W') ∨ (∃ pre, Sp pre ∧ Jx pre W'))
def ownPostL {α : Type} (n : Nat) (I : List α → World → Prop) (Ix : Code → List α → World → Prop) (xs : List α) (W : World) : Exit → Act → World → Prop
 | .normal, _, W' => Kp n W W' ∧ I xs W'
 | .ret, _, W' => Kx n W W' ∧ Ix .ret xs W'
 | .exit id, _, W' => Kx n W W' ∧ Ix (.exit id) xs W'
 | .goto t, _, W' => Kx n W W' ∧ Ix (.goto t) xs W'
 | .panic _, _, _ => False
 | .outgrown, _, _ => False
variable {n : Nat} {P : Program}
theorem below_putObj {N : Nat} {A : World} {l : Nat} (o : Obj) (h : N ≤ l) (hl : l < A.heap.size) : Below N A (A.putObj l o) :=
 (Below.refl N A).grown (grownBy_putObj' A l o) (by omega) (fun k e => by cases e; omega)
theorem range_l {α : Type} {g : Operand} {ps : Array Tmp} {assign body : Code} {Q : Exit → Act → World → Prop} {a : Act} {w : World}
  (h1 : 1 ≤ n) {gf : Nat} {lb : Array Value} (hg : a.eval g = .func (.func gf) #[] lb) (eg : ∀ args w, (callFunc gf args).run P w = .ok (.enter gf args) w)
  {encs : α → Array Value} {Pf : List α → α → Prop} {S Sp : List α → Prop} (hseq : SeqL (n - 1) P gf lb encs Pf S Sp w) (hps : ∀ x, (encs x).size = ps.size)
  (I : List α → World → Prop) (Ix : Code → List α → World → Prop) (hI : ∀ pre A B, I pre A → Below w.heap.size A B → I pre B) (hIx : ∀ c pre A B, Ix c pre A → Below w.heap.size A B → Ix c pre B) (h0 : I [] w) (a₁ : α → Act)
  (hassign : ∀ (l : Nat) (x : α) (W : World) (K : Act → World → Prop), K (a₁ x) W →
   assign.wpIn (Fence.wide.inRound l) (n - 1 - 1) P (Exit.then K (fun _ _ _ => False)) { tmps := (ps.zip (encs x)).foldl (fun t (p, v) => t.setIfInBounds p v) a.tmps, defers := [] } W)
  (hbody : ∀ (l : Nat) (pre : List α) (x : α) (W : World), Pf pre x → w.heap.size + 2 ≤ W.heap.size → I pre W → body.wpIn (Fence.wide.inRound l) (n - 1 - 1) P (ownPostL w.heap.size I Ix (pre ++ [x]) W) (a₁ x) W)
  (hdone : ∀ (D : Nat) (xs : List α) (W : World), w.heap.size ≤ D → S xs → I xs W → W.heap[D]? = some (.deferred (some [])) → Q .normal { a with defers := { target := .collected D, args := #[] } :: a.defers } W)
  (hstop : ∀ (D : Nat) (c : Code) (pre : List α) (W : World), w.heap.size ≤ D → Sp pre → Ix c pre W → W.heap[D]? = some (.deferred (some [])) → c.wpIn Fence.wide n P Q { a with defers := { target := .collected D, args := #[] } :: a.defers } W) :
  (Code.rangeFunc g ps assign body).wpIn Fence.wide n P Q a w := by
 refine wpIn_rangeFunc ?_
 intro fn hfn
 rw [show Fence.wide.round = none from rfl]
 obtain ⟨rc, hrc⟩ : ∃ rc : LoopState → Option Code → Loop, rc = fun st pe => { state := st, pending := pe, fn, tmps := a.tmps, params := ps, assign, body, defers := w.heap.size } := ⟨_, rfl⟩
 obtain ⟨V, hV⟩ : ∃ V, (w.alloc (.deferred (some []))).alloc (.loop (rc .ready none)) = V := ⟨_, rfl⟩
 have hsV : V.heap.size = w.heap.size + 2 := by rw [← hV]; simp
 have hLV : V.heap[w.heap.size + 1]? = some (.loop (rc .ready none)) := by
  have := World.alloc_heap_new (w.alloc (.deferred (some []))) (.loop (rc .ready none))
  rw [World.size_alloc, hV] at this
  exact this
 have hDV : V.heap[w.heap.size]? = some (.deferred (some [])) := by
  rw [← hV]; exact (Below.heap_alloc _ _ _ (by simp)).trans (World.alloc_heap_new w _)
 have hBV : Below w.heap.size w V := hV ▸ ((Below.refl _ w).alloc (Nat.le_refl _) _).alloc (by simp) _
 have hIV : I [] V := hI _ _ _ h0 hBV
 refine ⟨w.heap.size + 1, [{ target := .collected w.heap.size, args := #[] }], V, { target := .fn (.func gf) lb, args := #[.func (.yield (w.heap.size + 1)) #[] #[]] }, V, gf,
  #[.func (.yield (w.heap.size + 1)) #[] #[]] ++ lb, V, ?_, ?_, ?_, ?_, fun _ => h1, ?_⟩
 ·rw [← hV, hrc]; exact run_enterLoop_outer _ _ _ _ _
 ·simp only [resolve, hg]
  simp [go_sem]
 ·intro f' hf'; trivial
 ·simp [invoke, go_sem, eg]
 ·refine (hseq (w.heap.size + 1)
   (fun pre W => I pre W ∧ W.heap[w.heap.size + 1]? = some (.loop (rc .ready none)) ∧ W.heap[w.heap.size]? = some (.deferred (some [])))
   (fun pre W => ∃ c, Ix c pre W ∧ W.heap[w.heap.size + 1]? = some (.loop (rc .done (some c))) ∧ W.heap[w.heap.size]? = some (.deferred (some [])))
   V hBV (fun pre A B hs hab => ⟨hI pre A B hs.1 (hab.mono (by omega)), (hab.block _ (by omega)).trans hs.2.1, (hab.block _ (by omega)).trans hs.2.2⟩)
   (fun pre A B hs hab => by
    obtain ⟨c, hc, hl, hk⟩ := hs
    exact ⟨c, hIx c pre A B hc (hab.mono (by omega)), (hab.block _ (by omega)).trans hl, (hab.block _ (by omega)).trans hk⟩)
   ?_ ⟨hIV, hLV, hDV⟩).mono ?_
  ·rintro pre x W hpf hsz ⟨hi, hl, hk⟩
   obtain ⟨busy, hbusy⟩ : ∃ busy : Loop, busy = { rc .ready none with state := .busy } := ⟨_, rfl⟩
   have hlt : w.heap.size + 1 < W.heap.size := (Array.getElem?_eq_some_iff.1 hl).1
   have hy := run_yield (P := P) (args := encs x) hl (by rw [hrc]; exact hps x)
   rw [hrc] at hy
   refine ⟨fn, _, assign, body, hy, roundIn_of_wpIn hfn (hassign _ x W _ ⟨_, run_beginRound hl (by rw [hrc]), ?_⟩)⟩
   rw [← hbusy]
   have hl2 : (W.putObj (w.heap.size + 1) (.loop busy)).heap[w.heap.size + 1]? = some (.loop busy) := World.putObj_heap_same hlt
   have hk2 : (W.putObj (w.heap.size + 1) (.loop busy)).heap[w.heap.size]? = some (.deferred (some [])) := (World.putObj_heap_other (by omega)).trans hk
   have hs2 : (W.putObj (w.heap.size + 1) (.loop busy)).heap.size = W.heap.size := by simp [World.putObj]
   refine wpIn_mono (hbody _ pre x _ hpf (by rw [hs2]; omega) (hI _ _ _ hi (below_putObj _ (by omega) hlt))) ?_
   have fin : ∀ (j : Option Code) (Z : World), Kx w.heap.size (W.putObj (w.heap.size + 1) (.loop busy)) Z →
     (Instr.endRound (w.heap.size + 1) j).run P Z = .ok (.bool j.isNone) (Z.putObj (w.heap.size + 1) (.loop (rc (if j.isNone then .ready else .done) j))) ∧
     w.heap.size + 1 < Z.heap.size ∧
     (Z.putObj (w.heap.size + 1) (.loop (rc (if j.isNone then .ready else .done) j))).heap[w.heap.size + 1]? = some (.loop (rc (if j.isNone then .ready else .done) j)) ∧
     (Z.putObj (w.heap.size + 1) (.loop (rc (if j.isNone then .ready else .done) j))).heap[w.heap.size]? = some (.deferred (some [])) ∧
     Kx (w.heap.size + 2) W (Z.putObj (w.heap.size + 1) (.loop (rc (if j.isNone then .ready else .done) j))) := fun j Z hz => by
    have hl3 := (hz.up _ (by omega) (by rw [hs2]; exact hlt)).trans hl2
    have hk3 := (hz.up _ (Nat.le_refl _) (by rw [hs2]; omega)).trans hk2
    have he := run_endRound (P := P) j hl3
    rw [hbusy, hrc] at he
    rw [hrc]
    refine ⟨he, (Array.getElem?_eq_some_iff.1 hl3).1, World.putObj_heap_same (Array.getElem?_eq_some_iff.1 hl3).1, (World.putObj_heap_other (by omega)).trans hk3, ?_, ?_⟩
    ·have := hz.size; rw [hs2] at this; simpa [World.putObj] using this
    ·intro k hk hkl
     rw [World.putObj_heap_other (by omega), hz.up k (by omega) (by rw [hs2]; exact hkl), World.putObj_heap_other (by omega)]
   rintro e b Z hp
   cases e with
   | normal =>
    obtain ⟨r1, r2, r3, r4, r5⟩ := fin none Z hp.1.x
    refine ⟨_, _, r1, .inl ⟨rfl, ⟨hI _ _ _ hp.2 (below_putObj _ (by omega) r2), r3, r4⟩, ?_⟩⟩
    rw [hsV]
    refine ⟨r5.size, r5.up, fun k o hk ho => ?_⟩
    have hne : k ≠ w.heap.size + 1 := fun e => by rw [e, hl] at hk; cases hk; cases ho
    rw [World.putObj_heap_other (by omega)]
    exact hp.1.low k o (by rw [World.putObj_heap_other (by omega)]; exact hk) ho
   | ret =>
    obtain ⟨r1, r2, r3, r4, r5⟩ := fin (some .ret) Z hp.1
    exact ⟨_, _, r1, .inr ⟨rfl, ⟨.ret, hIx _ _ _ _ hp.2 (below_putObj _ (by omega) r2), r3, r4⟩, hsV ▸ r5⟩⟩
   | exit id =>
    obtain ⟨r1, r2, r3, r4, r5⟩ := fin (some (.exit id)) Z hp.1
    exact ⟨_, _, r1, .inr ⟨rfl, ⟨.exit id, hIx _ _ _ _ hp.2 (below_putObj _ (by omega) r2), r3, r4⟩, hsV ▸ r5⟩⟩
   | goto t =>
    obtain ⟨r1, r2, r3, r4, r5⟩ := fin (some (.goto t)) Z hp.1
    exact ⟨_, _, r1, .inr ⟨rfl, ⟨.goto t, hIx _ _ _ _ hp.2 (below_putObj _ (by omega) r2), r3, r4⟩, hsV ▸ r5⟩⟩
   | panic ch => exact hp.elim
   | outgrown => exact hp.elim
  ·rintro e Z ⟨⟨v, rfl⟩, (⟨xs, hS, hi, hl, hk⟩ | ⟨pre, hSp, c, hi, hl, hk⟩)⟩
   ·have he := run_endLoop (P := P) hl (by rw [hrc]; simp)
    rw [hrc] at he
    have hlz := (Array.getElem?_eq_some_iff.1 hl).1
    exact ⟨none, _, he, hdone _ xs _ (Nat.le_refl _) hS (hI _ _ _ hi (below_putObj _ (by omega) hlz)) ((World.putObj_heap_other (by omega)).trans hk)⟩
   ·have he := run_endLoop (P := P) hl (by rw [hrc]; simp)
    rw [hrc] at he
    have hlz := (Array.getElem?_eq_some_iff.1 hl).1
    exact ⟨some c, _, he, hstop _ c pre _ (Nat.le_refl _) hSp (hIx _ _ _ _ hi (below_putObj _ (by omega) hlz)) ((World.putObj_heap_other (by omega)).trans hk)⟩
end Go.Proofs.YtabmnkddmdffkaaGreatDoor.Sk
namespace Go.Proofs.YtabmnkddmdffkaaGreatDoor.Sk
open Go.RowKit Go.Shelf Tx
attribute [local go_sem] Oper.semAt_some
abbrev bts (x : Wd) : List UInt8 := bytesOf x
def YieldsP (n l N : Nat) (PL : List (List UInt8)) (J Jx : List Wd → World → Prop) : Prop :=
 ∀ (pre : List Wd) (x : Wd) W1, (pre ++ [x]).map bytesOf <+: PL → N ≤ W1.heap.size → J pre W1 → YieldAt Fence.wide n Tryz.prog l #[.string x.1] W1 fun e W' =>
  (e = .returned (.bool true) ∧ J (pre ++ [x]) W' ∧ Kp N W1 W') ∨ (e = .returned (.bool false) ∧ Jx (pre ++ [x]) W' ∧ Kx N W1 W')
structure TxRow (N : Nat) (W : World) (a : Option Addr) (n cap : Nat) (L : List Wd) : Prop where
 hlen : n = L.length
 hcap : n ≤ cap
 hbig : cap ≤ maxLen
 hat : ∀ j, j < n → ∃ b, a = some ⟨b, 0, none⟩ ∧ N ≤ b ∧ b < W.heap.size ∧ ∃ x : Wd, L[j]? = some x ∧ W.cell? ⟨b, j, none⟩ = some (.string x.1)
theorem TxRow.kx {N : Nat} {W W' : World} {a : Option Addr} {n cap : Nat} {L : List Wd} (h : TxRow N W a n cap L) (hk : Kx N W W') : TxRow N W' a n cap L :=
 ⟨h.hlen, h.hcap, h.hbig, fun j hj => by
  obtain ⟨b, e, h1, h2, x, h3, h4⟩ := h.hat j hj
  exact ⟨b, e, h1, Nat.lt_of_lt_of_le h2 hk.size, x, h3, by rw [← h4]; simp only [World.cell?, hk.up b h1 h2]⟩⟩
theorem splits (s : ByteArray) (hs : s.size ≤ 1000000) (w : World) :
  Calls Tryz.prog 113 #[.string s] w fun e W' => ∃ (a : Option Addr) (n cap : Nat), e = .returned (.slice a n cap) ∧ ∃ ys : List Wd, ys.map bytesOf = words s.data.toList ∧ TxRow w.heap.size W' a n cap ys ∧ Below w.heap.size w W' := by
 refine (split_any s hs w).mono ?_
 rintro e W' ⟨v, ys, rfl, hys, hrow, hb⟩
 rcases hrow.2 with ⟨rfl, h0⟩ | ⟨g, cap, cur, rfl, hg, hgb, h1, h2, h3, h4⟩
 ·exact ⟨none, 0, 0, rfl, ys, hys, ⟨h0.symm, Nat.le_refl _, Nat.zero_le _, fun j hj => absurd hj (Nat.not_lt_zero _)⟩, hb⟩
 ·refine ⟨_, _, _, rfl, ys, hys, ⟨rfl, h1, h2, fun j hj => ⟨g, rfl, hg, (Array.getElem?_eq_some_iff.1 hgb).1, ys[j], List.getElem?_eq_getElem hj, ?_⟩⟩, hb⟩
  have hj' : (ys.map encW)[j]? = some (.string (ys[j]).1) := by
   rw [List.getElem?_map, List.getElem?_eq_getElem hj]; rfl
  rw [← h4, List.getElem?_take_of_lt (by omega)] at hj'
  simp only [World.cell?, hgb]
  simpa using hj'
set_option maxRecDepth 100000 in
set_option maxHeartbeats 1000000 in
theorem each_in (n l N : Nat) (hn : 1 ≤ n) (s : ByteArray) (hs : s.size ≤ 1000000) (PL : List (List UInt8)) (J Jx : List Wd → World → Prop) (pre0 : List Wd) (W : World) (hN : N ≤ W.heap.size)
  (hJb : ∀ pre A B, J pre A → Below N A B → J pre B) (hP : pre0.map bytesOf ++ words s.data.toList <+: PL) (hY : YieldsP (n - 1) l N PL J Jx) (h0 : J pre0 W) :
  CallsIn Fence.wide n Tryz.prog 87 #[.string s, .func (.yield l) #[] #[]] W fun e W' =>
   (e = .returned (.bool true) ∧ (∃ ys : List Wd, ys.map bytesOf = words s.data.toList ∧ J (pre0 ++ ys) W') ∧ Kp N W W') ∨ (e = .returned (.bool false) ∧ (∃ pre : List Wd, Jx pre W') ∧ Kx N W W') := by
 have HY := hide' hY
 have HJ := hide' hJb
 clear hY hJb
 refine callsIn_of_wp Tryz.func87 rfl trivial ?_ rfl
 simp only [Tryz.ntmps87, List.size_toArray, List.length_cons, List.length_nil, Nat.reduceAdd, Nat.reduceSub, Array.replicate_succ, Array.replicate_zero, List.push_toArray, List.append_toArray, List.nil_append, List.cons_append]
 gi_wp2_with (refine ⟨trivial, ?_⟩; gi_at_call 113; refine (callsIn_wide.2 (splits s hs _)).mono ?_; rintro e W1 ⟨a, m, cap, rfl, ys, hys, hrow, hb1⟩)
 have hK1 : Kp N W W1 := Kp.below hb1
 have hrow1 : TxRow N W1 a m cap ys := ⟨hrow.hlen, hrow.hcap, hrow.hbig, fun j hj => by obtain ⟨b, e, h1, h2⟩ := hrow.hat j hj; exact ⟨b, e, Nat.le_trans hN h1, h2⟩⟩
 have hJ1 : J (pre0 ++ ys.take 0) W1 := by rw [List.take_zero, List.append_nil]; exact HJ.out _ _ _ h0 (hb1.mono hN)
 have hsz : ∀ k, (hk : k < ys.length) → (pre0 ++ ys.take (k + 1)).map bytesOf <+: PL := fun k hk => by
  refine List.IsPrefix.trans ?_ hP
  rw [List.map_append, ← hys]
  exact (List.prefix_append_right_inj _).2 ((List.take_prefix _ _).map _)
 have HLEN := hide' hrow1.hlen
 have HYS := hide' hys
 have HSZ := hide' hsz
 have hm : m ≤ 9223372036854775807 := by have h1 := hrow1.hbig; have h2 := hrow1.hcap; unfold maxLen at h1; omega
 clear hrow hsz hys hP h0 hb1
 gi_loopw [10] (fun p wr => ∃ k : Nat, k ≤ m ∧ p = .int .i64 k ∧ TxRow N wr a m cap ys ∧ Kp N W wr ∧ J (pre0 ++ ys.take k) wr)
  (fun p _ => m - (intOf p).toNat)
 case atStart => exact ⟨0, Nat.zero_le _, rfl, hrow1, hK1, hJ1⟩
 case round =>
  obtain ⟨k, hk, rfl, hO, hK, hJs⟩ := hrel
  by_cases hlt : k < m
  ·obtain ⟨b, rfl, hNb, hbs, x, hx, hc⟩ := hO.hat k hlt
   have hkl : k < ys.length := by have := HLEN.out; omega
   have hxx : x = ys[k] := by rw [List.getElem?_eq_getElem hkl] at hx; exact (Option.some.inj hx).symm
   have htk : pre0 ++ ys.take k ++ [x] = pre0 ++ ys.take (k + 1) := by rw [List.append_assoc, hxx, List.take_succ_eq_append_getElem hkl]
   obtain ⟨fn, tmps, assign, body, hy, hR⟩ := HY.out (pre0 ++ ys.take k) x wr (by rw [htk]; exact HSZ.out k hkl) (Nat.le_trans hN hK.size) hJs
   have HTK := hide' htk
   have HO := hide' hO
   clear hkl hx hxx htk hO
   gi_wp2
   refine hR.mono ?_
   rintro e' W3 (⟨rfl, hJ3, hk3⟩ | ⟨rfl, hJx3, hk3⟩)
   ·rw [HTK.out] at hJ3
    have hO3 := HO.out.kx hk3.x
    have hK3 := hK.trans hk3
    gi_wp2
    exact ⟨⟨k + 1, by omega, by go_num, hO3, hK3, hJ3⟩, by simp [intOf]; omega⟩
   ·have hK3 := hK.x.trans hk3
    gi_wp2
    go_ret
    exact .inr ⟨rfl, ⟨_, hJx3⟩, hK3⟩
  ·have hkm : k = m := by omega
   have hall : ys.take k = ys := by rw [hkm, HLEN.out, List.take_length]
   rw [hall] at hJs
   have HF := hide' hJs
   clear hkm hall hJs
   gi_wp2
   go_ret
   exact .inl ⟨rfl, ⟨ys, HYS.out, HF.out⟩, hK⟩
end Go.Proofs.YtabmnkddmdffkaaGreatDoor.Sk
namespace Go.Proofs.YtabmnkddmdffkaaGreatDoor.Pt
def fp : List UInt8 → Nat
 | [] => 0
 | c :: r => if c = 37 then 0 else fp r + 1
def opn (l : List UInt8) : Bool := decide (fp l < l.length)
def ahd (l : List UInt8) : List UInt8 := l.take (fp l)
def bhd (l : List UInt8) : List UInt8 := l.drop (fp l + 1)
theorem fp_le (l : List UInt8) : fp l ≤ l.length := by
 induction l with
 | nil => exact Nat.le_refl _
 | cons c r ih => simp only [fp, List.length_cons]; split <;> omega
theorem fp_no (l : List UInt8) (h : opn l = false) : fp l = l.length := by
 have := fp_le l
 have h' : ¬ fp l < l.length := by simpa [opn] using h
 omega
theorem fp_yes (l : List UInt8) (h : opn l = true) : fp l < l.length := by simpa [opn] using h
theorem opn_of (l : List UInt8) (h : fp l < l.length) : opn l = true := decide_eq_true h
theorem index_fp (l : List UInt8) : Lib.indexByte l 37 = if opn l then (fp l : Int) else -1 := by
 induction l with
 | nil => rfl
 | cons c r ih =>
  unfold Lib.indexByte
  by_cases hc : c = 37
  ·subst hc; simp [opn, fp]
  ·have hb : (c == 37) = false := by simpa using hc
   rw [if_neg (by simp [hb]), ih]
   by_cases ho : opn r = true
   ·have h1 := fp_yes r ho
    have h2 : opn (c :: r) = true := decide_eq_true (by simp only [fp, if_neg hc, List.length_cons]; omega)
    rw [if_pos ho, if_pos h2, if_neg (by simp)]
    simp only [fp, if_neg hc]
    omega
   ·have ho' : opn r = false := by simpa using ho
    have h1 := fp_no r ho'
    have h2 : ¬ opn (c :: r) = true := by
     intro e
     have := fp_yes _ e
     simp only [fp, if_neg hc, List.length_cons] at this
     omega
    rw [if_neg ho, if_neg h2]
    rfl
theorem ahd_no (l : List UInt8) (h : opn l = false) : ahd l = l := by unfold ahd; rw [fp_no l h, List.take_length]
theorem bhd_no (l : List UInt8) (h : opn l = false) : bhd l = [] := by unfold bhd; rw [fp_no l h]; exact List.drop_eq_nil_of_le (by omega)
theorem ahd_len (l : List UInt8) : (ahd l).length = fp l := by unfold ahd; rw [List.length_take]; have := fp_le l; omega
theorem bhd_len (l : List UInt8) : (bhd l).length = l.length - (fp l + 1) := by unfold bhd; rw [List.length_drop]
def both (a b w : List UInt8) : Bool := Lib.hasPrefix w a && Lib.hasSuffix (w.drop a.length) b
def stem (a b w : List UInt8) : List UInt8 := (w.drop a.length).take (w.length - a.length - b.length)
def ms (a b : List UInt8) (o : Bool) (w : List UInt8) : List UInt8 × Bool := if o then (if both a b w then (stem a b w, true) else ([], false)) else ([], w == a)
def mt (p w : List UInt8) : List UInt8 × Bool := ms (ahd p) (bhd p) (opn p) w
def ps (a b : List UInt8) (o : Bool) (s : List UInt8) : List UInt8 := if o then a ++ (s ++ b) else a
def put (p s : List UInt8) : List UInt8 := ps (ahd p) (bhd p) (opn p) s
def sub (p q w : List UInt8) : List UInt8 := if (mt p w).2 then (if opn p then put q (mt p w).1 else q) else w
theorem both_iff (a b w : List UInt8) : both a b w = (decide (a.length + b.length ≤ w.length) && ((w.take a.length == a) && (w.drop (w.length - b.length) == b))) := by
 unfold both
 rw [← Lib.hasPrefix_of_take, ← Lib.hasSuffix_of_drop, List.length_drop]
 by_cases h1 : a.length + b.length ≤ w.length
 ·have h2 : a.length ≤ w.length := by omega
  have h3 : b.length ≤ w.length - a.length := by omega
  rw [List.drop_drop, show a.length + (w.length - a.length - b.length) = w.length - b.length by omega]
  simp [h1, h2, h3]
 ·by_cases h2 : a.length ≤ w.length
  ·have h3 : ¬ b.length ≤ w.length - a.length := by omega
   simp [h1, h3]
  ·simp [h1, h2]
theorem stem_len (a b w : List UInt8) : (stem a b w).length ≤ w.length := by unfold stem; rw [List.length_take, List.length_drop]; omega
theorem mt_len (p w : List UInt8) : (mt p w).1.length ≤ w.length := by
 unfold mt ms
 split
 ·split
  ·exact stem_len _ _ _
  ·exact Nat.zero_le _
 ·exact Nat.zero_le _
end Go.Proofs.YtabmnkddmdffkaaGreatDoor.Pt
namespace Go.Proofs.YtabmnkddmdffkaaGreatDoor.Pt
open Go.RowKit Go.Shelf
theorem hide' {p : Prop} (h : p) : Hid p := h
def tl (x : ByteArray) : List UInt8 := x.data.toList
abbrev mk (l : List UInt8) : ByteArray := ⟨l.toArray⟩
theorem tl_len (s : ByteArray) : (tl s).length = s.size := (Lib.size_eq s).symm
theorem getD_at (s : ByteArray) (k : Nat) (h : k < s.size) : (tl s).getD k 0 = s[k] := by
 unfold tl
 rw [List.getD_eq_getElem?_getD, List.getElem?_eq_getElem (by simpa using h)]; rfl
theorem tl_inj (a b : ByteArray) (h : tl a = tl b) : a = b := by
 obtain ⟨⟨a⟩⟩ := a
 obtain ⟨⟨b⟩⟩ := b
 exact congrArg (fun l : List UInt8 => ByteArray.mk ⟨l⟩) h
theorem tl_mk (l : List UInt8) : tl (mk l) = l := by simp [tl]
theorem mk_tl (s : ByteArray) : mk (tl s) = s := tl_inj _ _ (tl_mk _)
theorem mk_size (l : List UInt8) : (mk l).size = l.length := by rw [← tl_len, tl_mk]
theorem ext_mk (s : ByteArray) (a b : Nat) : s.extract a b = mk (((tl s).drop a).take (b - a)) := tl_inj _ _ (by rw [tl_mk]; exact Lib.extract_data s a b)
theorem ext_drop (s : ByteArray) (a : Nat) : s.extract a s.size = mk ((tl s).drop a) := by
 rw [ext_mk, List.take_of_length_le (by rw [List.length_drop, tl_len]; omega)]
theorem ext_take (s : ByteArray) (b : Nat) : s.extract 0 b = mk ((tl s).take b) := by rw [ext_mk]; simp
theorem drop_at (s : ByteArray) (k : Nat) (h : k < s.size) : (tl s).drop k = s[k] :: (tl s).drop (k + 1) := by
 rw [← getD_at s k h, List.drop_eq_getElem_cons (by rw [tl_len]; exact h), List.getD_eq_getElem?_getD, List.getElem?_eq_getElem (by rw [tl_len]; exact h)]; rfl
theorem beq_no (a c : UInt8) (cn : Nat) (hcn : c.toNat = cn) (h : ¬ a = c) : ((a.toNat : Int) == (cn : Int)) = false := beq_eq_false_iff_ne.2 fun e => h (UInt8.toNat_inj.1 (by omega))
theorem beq_yes (a c : UInt8) (cn : Nat) (hcn : c.toNat = cn) (h : a = c) : ((a.toNat : Int) == (cn : Int)) = true := by rw [h, hcn]; simp
theorem ret_int {a b : Int} (h : a = b) : Ending.returned (.int .i64 a) = .returned (.int .i64 b) := by rw [h]
theorem ret_str {a b : ByteArray} (h : a = b) : Ending.returned (.string a) = .returned (.string b) := by rw [h]
def ip (l : List UInt8) : Int := if opn l then (fp l : Int) else -1
set_option maxHeartbeats 400000 in
theorem rindex_any (s : ByteArray) (w : World) (hs : s.size ≤ 1000000) :
  Calls Tryz.prog 39 #[.string s, .int .u8 37] w fun e w' => e = .returned (.int .i64 (ip (tl s))) ∧ w' = w := by
 go_enter Tryz.func39, Tryz.ntmps39
 go_wp2
 go_loop [5] (fun i => ∃ k : Nat, k ≤ s.size ∧ i = .int .i64 k ∧ Hid (fp (tl s) = k + fp ((tl s).drop k))) (fun i => s.size - (intOf i).toNat)
 case atStart => exact ⟨0, Nat.zero_le _, rfl, by show _ = _; simp⟩
 case round =>
  obtain ⟨k, hk, rfl, HK⟩ := hrel
  by_cases hlt : k < s.size
  ·by_cases h1 : s[k] = 37
   ·have k1 := beq_yes s[k] 37 37 rfl h1
    have hf : fp (tl s) = k := by rw [HK.out, drop_at s k hlt, h1]; simp [fp]
    have hi : ip (tl s) = k := by
     unfold ip
     rw [if_pos (opn_of _ (by rw [hf, tl_len]; exact hlt)), hf]
    have HI := hide' hi
    clear h1 HK hf hi
    go_wp2
    go_ret
    exact ⟨ret_int HI.out.symm, rfl⟩
   ·have k1 := beq_no s[k] 37 37 rfl h1
    have HJ : Hid (fp (tl s) = k + 1 + fp ((tl s).drop (k + 1))) := by
     show _ = _
     rw [HK.out, drop_at s k hlt, fp, if_neg h1]; omega
    clear h1 HK
    go_wp2
    exact ⟨⟨k + 1, by omega, by go_num, HJ⟩, by simp [intOf]; omega⟩
  ·have hi : ip (tl s) = -1 := by
    unfold ip
    rw [if_neg ?_]
    intro e
    have h1 := fp_yes _ e
    rw [tl_len] at h1
    have h2 := HK.out
    omega
   have HI := hide' hi
   clear HK hi
   go_wp2
   go_ret
   exact ⟨ret_int HI.out.symm, rfl⟩
set_option maxHeartbeats 400000 in
theorem cutl_any (s : ByteArray) (w : World) (hs : s.size ≤ 1000000) :
  Calls Tryz.prog 155 #[.string s, .string ⟨#[37]⟩] w fun e w' => e = .returned (.tuple #[.string (mk (ahd (tl s))), .string (mk (bhd (tl s))), .bool (opn (tl s))]) ∧ ∃ n, w' = w.drewN n := by
 have q := Tryz.stringslite_Index_one s 37 w
 rw [show s.data.toList = tl s from rfl, index_fp] at q
 by_cases ho : opn (tl s) = true
 ·have hf := fp_yes _ ho
  rw [tl_len] at hf
  rw [if_pos ho] at q
  have e1 : mk (ahd (tl s)) = s.extract 0 (fp (tl s)) := (ext_take _ _).symm
  have e2 : mk (bhd (tl s)) = s.extract (fp (tl s) + 1) s.size := (ext_drop _ _).symm
  rw [ho, e1, e2]
  generalize fp (tl s) = m at q hf
  clear ho e1 e2
  go_enter Tryz.func155, Tryz.ntmps155
  go_wp2_with fail
  refine q.mono ?_
  rintro e w' ⟨rfl, rfl⟩
  go_wp2
  go_region
  go_wp2
  go_ret3
  exact ⟨rfl, 1, rfl⟩
 ·have ho' : opn (tl s) = false := by simpa using ho
  rw [if_neg ho] at q
  rw [ahd_no _ ho', bhd_no _ ho', ho', mk_tl]
  clear ho ho'
  go_enter Tryz.func155, Tryz.ntmps155
  go_wp2_with fail
  refine q.mono ?_
  rintro e w' ⟨rfl, rfl⟩
  go_wp2
  go_ret3
  exact ⟨rfl, 0, rfl⟩
theorem cut_any (s : ByteArray) (w : World) (hs : s.size ≤ 1000000) :
  Calls Tryz.prog 135 #[.string s, .string ⟨#[37]⟩] w fun e w' => e = .returned (.tuple #[.string (mk (ahd (tl s))), .string (mk (bhd (tl s))), .bool (opn (tl s))]) ∧ ∃ n, w' = w.drewN n := by
 have q := cutl_any s w hs
 generalize mk (ahd (tl s)) = a at q
 generalize mk (bhd (tl s)) = b at q
 generalize opn (tl s) = o at q
 go_enter Tryz.func135, Tryz.ntmps135
 go_wp2_with fail
 refine q.mono ?_
 rintro e w' ⟨rfl, n, rfl⟩
 go_wp2
 go_ret3
 exact ⟨rfl, n, rfl⟩
theorem below_drewn {B : Nat} {w : World} (q : Nat) : Below B w (w.drewN q) := ⟨rfl, rfl, rfl, Nat.le_refl _, fun _ _ => rfl⟩
abbrev shv (a b : ByteArray) (o : Bool) : Value := .agg #[.string a, .string b, .bool o]
set_option maxHeartbeats 400000 in
theorem shapeOf_any (s : ByteArray) (w : World) (hs : s.size ≤ 1000000) :
  Calls Tryz.prog 111 #[.string s] w fun e w' => e = .returned (shv (mk (ahd (tl s))) (mk (bhd (tl s))) (opn (tl s))) ∧ Below w.heap.size w w' := by
 have q := fun w => cut_any s w hs
 generalize mk (ahd (tl s)) = a at q
 generalize mk (bhd (tl s)) = b at q
 generalize opn (tl s) = o at q
 go_enter Tryz.func111, Tryz.ntmps111
 go_wp2_with fail
 refine (q _).mono ?_
 rintro e w' ⟨rfl, n, rfl⟩
 go_wp2
 refine bodyPost_ret (by simp [results, Tryz.results111, go_sem]; rfl) rfl ?_
 refine ⟨rfl, ?_⟩
 exact (((((Below.refl _ w).alloc (Nat.le_refl _) _).trans (below_drewn n)).setCell (p := ⟨w.heap.size, 0, none⟩) (Nat.le_refl _) _).setCell (p := ⟨w.heap.size, 1, none⟩) (Nat.le_refl _) _).setCell (p := ⟨w.heap.size, 2, none⟩) (Nat.le_refl _) _
end Go.Proofs.YtabmnkddmdffkaaGreatDoor.Pt
namespace Go.Proofs.YtabmnkddmdffkaaGreatDoor.Pt
open Go.RowKit Go.Shelf
theorem trim_yes (w a : List UInt8) (h : Lib.hasPrefix w a = true) : Lib.trimPrefix w a = w.drop a.length := by unfold Lib.trimPrefix; rw [if_pos h]
theorem tsuf_yes (w b : List UInt8) (h : Lib.hasSuffix w b = true) : Lib.trimSuffix w b = w.take (w.length - b.length) := by unfold Lib.trimSuffix; rw [if_pos h]
def bt (a b w : List UInt8) : List UInt8 × Bool := if both a b w then (stem a b w, true) else ([], false)
set_option maxHeartbeats 400000 in
theorem between_any (a b s : ByteArray) (w : World) (hs : s.size ≤ 1000000) :
  Calls Tryz.prog 136 #[.agg #[.string a, .string b], .string s] w fun e w' => e = .returned (.tuple #[.string (mk (bt (tl a) (tl b) (tl s)).1), .bool (bt (tl a) (tl b) (tl s)).2]) ∧ Below w.heap.size w w' := by
 have q1 := fun w => Tryz.strings_CutPrefix s a w
 have hle := Lib.trimPrefix_le (tl s) (tl a)
 have q2 := fun w => Tryz.strings_CutSuffix (mk (Lib.trimPrefix (tl s) (tl a))) b w (by rw [mk_size]; rw [tl_len] at hle; omega)
 rw [show s.data.toList = tl s from rfl, show a.data.toList = tl a from rfl] at q1
 rw [show (mk (Lib.trimPrefix (tl s) (tl a))).data.toList = Lib.trimPrefix (tl s) (tl a) from tl_mk _, show b.data.toList = tl b from rfl] at q2
 obtain ⟨x, hx⟩ : ∃ x, x = bt (tl a) (tl b) (tl s) := ⟨_, rfl⟩
 rw [← hx]
 cases h1 : Lib.hasPrefix (tl s) (tl a) with
 | false =>
  have hx' : x = ([], false) := by rw [hx]; unfold bt both; rw [h1]; rfl
  subst hx'
  rw [h1] at q1
  generalize Lib.hasSuffix (Lib.trimPrefix (tl s) (tl a)) (tl b) = o2 at q2
  generalize (⟨(Lib.trimSuffix (Lib.trimPrefix (tl s) (tl a)) (tl b)).toArray⟩ : ByteArray) = r2 at q2
  dsimp only [mk] at q2
  generalize (⟨(Lib.trimPrefix (tl s) (tl a)).toArray⟩ : ByteArray) = r1 at q1 q2
  clear h1 hx hle
  go_enter Tryz.func136, Tryz.ntmps136
  go_wp2_with fail
  refine (q1 _).mono ?_
  rintro e w' ⟨rfl, rfl⟩
  go_wp2_with fail
  refine (q2 _).mono ?_
  rintro e w' ⟨rfl, rfl⟩
  go_wp2
  go_ret2
  exact ⟨rfl, (Below.refl _ _).alloc (Nat.le_refl _) _⟩
 | true =>
  rw [h1] at q1
  rw [trim_yes _ _ h1] at q1 q2
  cases h2 : Lib.hasSuffix ((tl s).drop (tl a).length) (tl b) with
  | false =>
   have hx' : x = ([], false) := by rw [hx]; unfold bt both; rw [h1, h2]; rfl
   subst hx'
   rw [h2] at q2
   generalize (⟨(Lib.trimSuffix ((tl s).drop (tl a).length) (tl b)).toArray⟩ : ByteArray) = r2 at q2
   dsimp only [mk] at q2
   generalize (⟨((tl s).drop (tl a).length).toArray⟩ : ByteArray) = r1 at q1 q2
   clear h1 h2 hx hle
   go_enter Tryz.func136, Tryz.ntmps136
   go_wp2_with fail
   refine (q1 _).mono ?_
   rintro e w' ⟨rfl, rfl⟩
   go_wp2_with fail
   refine (q2 _).mono ?_
   rintro e w' ⟨rfl, rfl⟩
   go_wp2
   go_ret2
   exact ⟨rfl, (Below.refl _ _).alloc (Nat.le_refl _) _⟩
  | true =>
   have hx' : x = (stem (tl a) (tl b) (tl s), true) := by rw [hx]; unfold bt both; rw [h1, h2]; rfl
   subst hx'
   have e2 : Lib.trimSuffix ((tl s).drop (tl a).length) (tl b) = stem (tl a) (tl b) (tl s) := by rw [tsuf_yes _ _ h2]; unfold stem; rw [List.length_drop]
   rw [h2, e2] at q2
   dsimp only [mk] at q2 ⊢
   generalize (⟨(stem (tl a) (tl b) (tl s)).toArray⟩ : ByteArray) = r2 at q2
   generalize (⟨((tl s).drop (tl a).length).toArray⟩ : ByteArray) = r1 at q1 q2
   clear h1 h2 hx hle e2
   go_enter Tryz.func136, Tryz.ntmps136
   go_wp2_with fail
   refine (q1 _).mono ?_
   rintro e w' ⟨rfl, rfl⟩
   go_wp2_with fail
   refine (q2 _).mono ?_
   rintro e w' ⟨rfl, rfl⟩
   go_wp2
   go_ret2
   exact ⟨rfl, (Below.refl _ _).alloc (Nat.le_refl _) _⟩
theorem beq_list (a b : ByteArray) : (a.toList == b.toList) = (tl a == tl b) := by rw [Lib.toList_data, Lib.toList_data]; rfl
set_option maxHeartbeats 400000 in
theorem match_any (a b : ByteArray) (o : Bool) (s : ByteArray) (w : World) (hs : s.size ≤ 1000000) :
  Calls Tryz.prog 112 #[shv a b o, .string s] w fun e w' => e = .returned (.tuple #[.string (mk (ms (tl a) (tl b) o (tl s)).1), .bool (ms (tl a) (tl b) o (tl s)).2]) ∧ Below w.heap.size w w' := by
 cases o with
 | false =>
  have e2 : (ms (tl a) (tl b) false (tl s)) = ([], tl s == tl a) := rfl
  rw [e2]
  have e3 := beq_list s a
  dsimp only
  generalize (tl s == tl a) = r at e3
  clear e2
  go_enter Tryz.func112, Tryz.ntmps112
  go_wp2
  go_region
  go_wp2
  go_ret2
  exact ⟨rfl, ((Below.refl _ _).alloc (Nat.le_refl _) _).drew⟩
 | true =>
  have q := fun w => between_any a b s w hs
  have e2 : (ms (tl a) (tl b) true (tl s)) = bt (tl a) (tl b) (tl s) := rfl
  rw [e2]
  generalize mk (bt (tl a) (tl b) (tl s)).1 = r1 at q
  generalize (bt (tl a) (tl b) (tl s)).2 = r2 at q
  clear e2
  go_enter Tryz.func112, Tryz.ntmps112
  go_wp2_with fail
  refine (q _).mono ?_
  rintro e w' ⟨rfl, hb⟩
  go_wp2
  go_ret2
  exact ⟨rfl, ((Below.refl _ _).alloc (Nat.le_refl _) _).trans (hb.mono (by simp))⟩
end Go.Proofs.YtabmnkddmdffkaaGreatDoor.Pt
namespace Go.Proofs.YtabmnkddmdffkaaGreatDoor.Pt
open Go.RowKit Go.Shelf
set_option maxHeartbeats 400000 in
theorem pmatch_any (p s : ByteArray) (w : World) (hp : p.size ≤ 1000000) (hs : s.size ≤ 1000000) :
  Calls Tryz.prog 86 #[.string p, .string s] w fun e w' => e = .returned (.tuple #[.string (mk (mt (tl p) (tl s)).1), .bool (mt (tl p) (tl s)).2]) ∧ Below w.heap.size w w' := by
 have q1 := fun w => shapeOf_any p w hp
 have q2 := fun w => match_any (mk (ahd (tl p))) (mk (bhd (tl p))) (opn (tl p)) s w hs
 simp only [tl_mk] at q2
 rw [show ms (ahd (tl p)) (bhd (tl p)) (opn (tl p)) (tl s) = mt (tl p) (tl s) from rfl] at q2
 have hl := mt_len (tl p) (tl s)
 have q3 := fun w => Tx.clone_any (mk (mt (tl p) (tl s)).1) w (by rw [mk_size]; rw [tl_len] at hl; omega)
 generalize mk (ahd (tl p)) = a at q1 q2
 generalize mk (bhd (tl p)) = b at q1 q2
 generalize opn (tl p) = o at q1 q2
 generalize mk (mt (tl p) (tl s)).1 = x at q2 q3
 generalize (mt (tl p) (tl s)).2 = y at q2
 clear hl
 go_enter Tryz.func86, Tryz.ntmps86
 go_wp2_with fail
 refine (q1 _).mono ?_
 rintro e w1 ⟨rfl, hb1⟩
 go_wp2_with fail
 refine (q2 _).mono ?_
 rintro e w2 ⟨rfl, hb2⟩
 have B2 := hb1.trans (hb2.mono hb1.size)
 clear hb1 hb2
 go_wp2_with fail
 refine (q3 _).mono ?_
 rintro e w3 ⟨rfl, hb3⟩
 have B3 := B2.trans (hb3.mono B2.size)
 clear B2 hb3
 go_wp2
 go_ret2
 exact ⟨rfl, B3⟩
end Go.Proofs.YtabmnkddmdffkaaGreatDoor.Pt
namespace Go.Proofs.YtabmnkddmdffkaaGreatDoor.Sk
open Go.RowKit Go.Shelf Tx
attribute [local go_sem] Oper.semAt_some
theorem yield_any {m k l : Nat} {P : Program} {args : Array Value} {W : World} {R : Ending → World → Prop} (h : YieldAt Fence.wide m P l args W R) : YieldAt Fence.wide k P l args W R := by
 obtain ⟨fn, t, a, b, hy, hR⟩ := h
 exact ⟨fn, t, a, b, hy, hR.1, fun c cs _ => hR.2 c cs (room_wide _)⟩
theorem YieldsP.any {m k l N : Nat} {PL : List (List UInt8)} {J Jx : List Wd → World → Prop} (h : YieldsP m l N PL J Jx) : YieldsP k l N PL J Jx := fun pre x W1 h1 h2 h3 => yield_any (h pre x W1 h1 h2 h3)
abbrev Prw := ByteArray × ByteArray
structure Prs (W : World) (a : Option Addr) (n : Nat) (L : List Prw) : Prop where
 hlen : n = L.length
 hat : ∀ j, j < n → ∃ b, a = some ⟨b, 0, none⟩ ∧ b < W.heap.size ∧ (∃ o, W.heap[b]? = some o ∧ isBook o = false) ∧ ∃ x : Prw, L[j]? = some x ∧ W.cell? ⟨b, j * 2, none⟩ = some (.string x.1) ∧ W.cell? ⟨b, j * 2 + 1, none⟩ = some (.string x.2)
abbrev bsC (a : Option Addr) (n cap : Nat) : Array Value := #[.slice none 0 0, .slice none 0 0, .slice a n cap, .slice none 0 0, .slice none 0 0, .string ⟨#[]⟩, .slice none 0 0]
structure DrC (W : World) (Bb Bn Bd : Nat) (a : Option Addr) (n cap : Nat) (L : List Prw) (name dirs : ByteArray) : Prop where
 base : W.heap[Bb]? = some (.cells (bsC a n cap) 43 (0, 0))
 nm : Boxed W Bn 9 (.string name)
 dr : Boxed W Bd 9 (.string dirs)
 prs : Prs W a n L
 mx : Mx W
structure Lies (A B : World) : Prop where
 size : A.heap.size ≤ B.heap.size
 low : ∀ (k : Nat) (o : Obj), A.heap[k]? = some o → isBook o = false → B.heap[k]? = some o
theorem Kp.lies {N : Nat} {A B : World} (h : Kp N A B) : Lies A B := ⟨h.size, h.low⟩
theorem Lies.below {A B : World} (h : Below A.heap.size A B) : Lies A B := (Kp.below (n := 0) h).lies
theorem Lies.trans {A B C : World} (h : Lies A B) (k : Lies B C) : Lies A C := ⟨Nat.le_trans h.size k.size, fun i o hi ho => k.low i o (h.low i o hi ho) ho⟩
theorem Lies.cell {A B : World} (h : Lies A B) {b j : Nat} {o : Obj} (ho : A.heap[b]? = some o) (hb : isBook o = false) : B.cell? ⟨b, j, none⟩ = A.cell? ⟨b, j, none⟩ := by
 simp only [World.cell?, h.low b o ho hb, ho]
theorem cell_obj {A : World} {b j : Nat} {v : Value} (h : A.cell? ⟨b, j, none⟩ = some v) : ∃ o, A.heap[b]? = some o ∧ isBook o = false := by
 cases ho : A.heap[b]? with
 | none => simp [World.cell?, ho] at h
 | some o => refine ⟨o, rfl, ?_⟩; cases o <;> first | rfl | (simp [World.cell?, ho] at h)
theorem Lies.cellv {A B : World} (h : Lies A B) {b j : Nat} {v : Value} (hc : A.cell? ⟨b, j, none⟩ = some v) : B.cell? ⟨b, j, none⟩ = some v := by
 obtain ⟨o, ho, hb⟩ := cell_obj hc
 rw [h.cell ho hb]; exact hc
theorem Prs.lies {A B : World} {a : Option Addr} {n : Nat} {L : List Prw} (h : Prs A a n L) (hl : Lies A B) : Prs B a n L :=
 ⟨h.hlen, fun j hj => by
  obtain ⟨b, e, h1, ⟨o, h2, h3⟩, x, h4, h5, h6⟩ := h.hat j hj
  exact ⟨b, e, Nat.lt_of_lt_of_le h1 hl.size, ⟨o, hl.low b o h2 h3, h3⟩, x, h4, hl.cellv h5, hl.cellv h6⟩⟩
theorem Mx.lies {A B : World} (h : Mx A) (hl : Lies A B) : Mx B := by
 obtain ⟨m, hm⟩ := h
 exact ⟨m, hl.cellv hm⟩
theorem DrC.lies {A B : World} {Bb Bn Bd : Nat} {a : Option Addr} {n cap : Nat} {L : List Prw} {name dirs : ByteArray} (h : DrC A Bb Bn Bd a n cap L name dirs) (hl : Lies A B) : DrC B Bb Bn Bd a n cap L name dirs :=
 ⟨hl.low _ _ h.base rfl, hl.low _ _ h.nm rfl, hl.low _ _ h.dr rfl, h.prs.lies hl, h.mx.lies hl⟩
theorem match_sk (p s : ByteArray) (w : World) (hp : p.size ≤ 1000000) (hs : s.size ≤ 1000000) :
  Calls Tryz.prog 86 #[.string p, .string s] w fun e w' => e = .returned (.tuple #[.string (mk (Pt.mt (tl p) (tl s)).1), .bool (Pt.mt (tl p) (tl s)).2]) ∧ Below w.heap.size w w' := Pt.pmatch_any p s w hp hs
def pW (nm : List UInt8) (p : Prw) : List (List UInt8) := if (Pt.mt (tl p.1) nm).2 then words (tl p.2) else []
def dirL (L : List Prw) (nm dr : List UInt8) : List (List UInt8) := L.flatMap (pW nm) ++ words (cmap dr)
set_option maxRecDepth 100000 in
set_option maxHeartbeats 2000000 in
theorem dirs1_in (n l : Nat) (hn : 2 ≤ n) (Bb Bn Bd : Nat) (a : Option Addr) (m cap : Nat) (L : List Prw) (name dirs : ByteArray) (hm : m ≤ 1000000) (hns : name.size ≤ 1000000) (hds : dirs.size ≤ 1000000) (hls : ∀ p ∈ L, p.1.size ≤ 1000000 ∧ p.2.size ≤ 1000000)
  (J Jx : List Wd → World → Prop) (W : World) (hC : DrC W Bb Bn Bd a m cap L name dirs) (hJb : ∀ pre A B, J pre A → Below W.heap.size A B → J pre B)
  (hY : YieldsP (n - 1) l W.heap.size (dirL L (tl name) (tl dirs)) J Jx) (h0 : J [] W) :
  CallsIn Fence.wide n Tryz.prog 85 #[.func (.yield l) #[] #[], .pointer (some ⟨Bb, 0, none⟩), .pointer (some ⟨Bn, 0, none⟩), .pointer (some ⟨Bd, 0, none⟩)] W fun e W' => (∃ v, e = .returned v) ∧
   ((∃ ys : List Wd, ys.map bytesOf = dirL L (tl name) (tl dirs) ∧ J ys W') ∨ (∃ pre : List Wd, True ∧ Jx pre W')) := by
 have hn1 : 1 ≤ n := by omega
 have HY := hide' hY
 have HJ := hide' hJb
 have HC := hide' hC
 have HLS := hide' hls
 have c2 : W.cell? ⟨Bb, 2, none⟩ = some (.slice a m cap) := by rw [Lib.cell_of_heap hC.base]; rfl
 clear hY hJb hC hls
 refine callsIn_of_wp Tryz.func85 rfl trivial ?_ rfl
 simp only [Tryz.ntmps85, List.size_toArray, List.length_cons, List.length_nil, Nat.reduceAdd, Nat.reduceSub, Array.replicate_succ, Array.replicate_zero, List.push_toArray, List.append_toArray, List.nil_append, List.cons_append]
 gi_wp2
 gi_loopw [12] (fun p wr => ∃ (k : Nat) (pre : List Wd), k ≤ m ∧ p = .int .i64 k ∧ Kp W.heap.size W wr ∧ Hid (pre.map bytesOf = (L.take k).flatMap (pW (tl name))) ∧ J pre wr)
  (fun p _ => m - (intOf p).toNat)
 case atStart => exact ⟨0, [], Nat.zero_le _, rfl, Kp.refl _ _, rfl, h0⟩
 case round =>
  obtain ⟨k, pre, hk, rfl, hK, HP, hJs⟩ := hrel
  have hC := HC.out.lies hK.lies
  by_cases hlt : k < m
  ·obtain ⟨b, rfl, hbs, _, x, hx, d1, d2⟩ := hC.prs.hat k hlt
   have cn := fun o => (hC.nm.alloc o).cell
   obtain ⟨x1, x2⟩ := x
   have hkl : k < L.length := by have := hC.prs.hlen; omega
   have hxk : L[k] = (x1, x2) := by rw [List.getElem?_eq_getElem hkl] at hx; exact Option.some.inj hx
   have hxs : x1.size ≤ 1000000 ∧ x2.size ≤ 1000000 := by have := HLS.out (x1, x2) (hxk ▸ List.getElem_mem hkl); exact this
   obtain ⟨hx1, hx2⟩ := hxs
   have hst : (L.take (k + 1)).flatMap (pW (tl name)) = (L.take k).flatMap (pW (tl name)) ++ pW (tl name) (x1, x2) := by
    rw [List.take_succ_eq_append_getElem hkl, List.flatMap_append, hxk]; simp
   have hpre : (L.take (k + 1)).flatMap (pW (tl name)) <+: dirL L (tl name) (tl dirs) := by
    refine List.IsPrefix.trans ?_ (List.prefix_append _ _)
    exact ⟨(L.drop (k + 1)).flatMap (pW (tl name)), by rw [← List.flatMap_append, List.take_append_drop]⟩
   obtain ⟨q, hq⟩ : ∃ q, q = (Pt.mt (tl x1) (tl name)).2 := ⟨_, rfl⟩
   obtain ⟨st, hst1⟩ : ∃ st, st = mk (Pt.mt (tl x1) (tl name)).1 := ⟨_, rfl⟩
   have km := fun w => match_sk x1 name w hx1 hns
   rw [← hq, ← hst1] at km
   have hpw : pW (tl name) (x1, x2) = if q then words (tl x2) else [] := by rw [hq]; rfl
   rw [hpw] at hst
   simp only at d1 d2
   have HST := hide' hst
   have HPR := hide' hpre
   have HC1 := hide' hC
   have hsz0 := hK.size
   clear hst hpre hC hpw hxk hx hkl hst1 hq
   have e1 := World.alloc_heap_new wr (Obj.cells #[Value.string x1, Value.string x2] 29)
   have hba : Below wr.heap.size wr (wr.alloc (Obj.cells #[Value.string x1, Value.string x2] 29)) := (Below.refl _ _).alloc (Nat.le_refl _) _
   have hKa : Kp W.heap.size wr (wr.alloc (Obj.cells #[Value.string x1, Value.string x2] 29)) := Kp.below hba
   have hsa : wr.heap.size < (wr.alloc (Obj.cells #[Value.string x1, Value.string x2] 29)).heap.size := by simp
   gi_wp2_with (refine ⟨trivial, ?_⟩; gi_at_call 86; refine (callsIn_wide.2 (km _)).mono ?_)
   rintro e w1 ⟨rfl, hb1⟩
   have e2 := (hb1.block _ hsa).trans e1
   have c5 : w1.cell? ⟨wr.heap.size, 1, none⟩ = some (.string x2) := by rw [Lib.cell_of_heap e2]; rfl
   clear e1 e2
   have hbw : Below wr.heap.size wr w1 := hba.trans (hb1.mono (Nat.le_of_lt hsa))
   have hK1 : Kp W.heap.size W w1 := hK.trans (Kp.below hbw)
   have hJ1 : J pre w1 := HJ.out _ _ _ hJs (hbw.mono hsz0)
   clear hba hKa hsa hb1 km cn d1 d2 hK hJs
   cases q with
   | false =>
    have HST2 : Hid (pre.map bytesOf = (L.take (k + 1)).flatMap (pW (tl name))) := by
     show _ = _
     rw [HST.out, HP.out]; simp
    clear HST HP
    gi_wp2
    refine ⟨trivial, ?_⟩
    gi_wp2
    exact ⟨⟨k + 1, pre, by omega, by go_num, hK1, HST2, hJ1⟩, by simp [intOf]; omega⟩
   | true =>
    have hP2 : pre.map bytesOf ++ words x2.data.toList <+: dirL L (tl name) (tl dirs) := by
     have h1 := HPR.out
     rw [HST.out, ← HP.out] at h1
     exact h1
    have ke := each_in (n - 1) l W.heap.size (by omega) x2 hx2 (dirL L (tl name) (tl dirs)) J Jx pre w1 hK1.size HJ.out hP2 HY.out.any hJ1
    clear hP2
    gi_wp2_with (refine ⟨trivial, ?_⟩; gi_at_call 87; refine ke.mono ?_)
    rintro e w2 (⟨rfl, ⟨ys, hys, hJ2⟩, hk2⟩ | ⟨rfl, ⟨pre2, hJx2⟩, hk2⟩)
    ·have hK2 := hK1.trans hk2
     have HST2 : Hid ((pre ++ ys).map bytesOf = (L.take (k + 1)).flatMap (pW (tl name))) := by
      show _ = _
      rw [HST.out, List.map_append, HP.out, hys]; rfl
     clear HST HP hys hJ1 hK1 hk2 c5 hbw
     gi_wp2
     exact ⟨⟨k + 1, pre ++ ys, by omega, by go_num, hK2, HST2, hJ2⟩, by simp [intOf]; omega⟩
    ·gi_wp2
     refine bodyPost_ret (results_none rfl _ _ _) rfl ?_
     exact ⟨⟨_, rfl⟩, .inr ⟨pre2, trivial, hJx2⟩⟩
  ·have hall : L.take k = L := by
    have h1 := hC.prs.hlen
    exact List.take_of_length_le (by omega)
   have hP2 : pre.map bytesOf ++ words (mk (cmap (tl dirs))).data.toList = dirL L (tl name) (tl dirs) := by
    rw [HP.out, hall]; rfl
   have cd := hC.dr.cell
   have kc := colon_any dirs hds wr hC.mx
   have hcs : (mk (cmap (tl dirs))).size ≤ 1000000 := by rw [mk_size, cmap_len, tl_len]; exact hds
   obtain ⟨cm, hcm⟩ : ∃ cm, cm = mk (cmap (tl dirs)) := ⟨_, rfl⟩
   rw [← hcm] at kc hcs hP2
   have HP2 := hide' hP2
   clear hcm hP2 HP hall hC
   gi_wp2_with (refine ⟨trivial, ?_⟩; gi_at_call 88; refine (callsIn_wide.2 kc).mono ?_)
   rintro e w1 ⟨rfl, hb1⟩
   have hK1 : Kp W.heap.size W w1 := hK.trans (Kp.below hb1)
   have hJ1 : J pre w1 := HJ.out _ _ _ hJs (hb1.mono hK.size)
   have ke := each_in (n - 1) l W.heap.size (by omega) cm hcs (dirL L (tl name) (tl dirs)) J Jx pre w1 hK1.size HJ.out (by rw [HP2.out]; exact List.prefix_refl _) HY.out.any hJ1
   clear kc cd hK hJs hb1 hJ1
   gi_wp2_with (refine ⟨trivial, ?_⟩; gi_at_call 87; refine ke.mono ?_)
   rintro e w2 (⟨rfl, ⟨ys, hys, hJ2⟩, hk2⟩ | ⟨rfl, ⟨pre2, hJx2⟩, hk2⟩)
   ·have HST2 : Hid ((pre ++ ys).map bytesOf = dirL L (tl name) (tl dirs)) := by
     show _ = _
     rw [← HP2.out, List.map_append, hys]
    clear HP2 hys
    gi_wp2
    go_end0
    exact ⟨⟨_, rfl⟩, .inl ⟨_, HST2.out, hJ2⟩⟩
   ·gi_wp2
    go_end0
    exact ⟨⟨_, rfl⟩, .inr ⟨pre2, trivial, hJx2⟩⟩
theorem dirs_seq (n : Nat) (hn : 2 ≤ n) (Bb Bn Bd : Nat) (a : Option Addr) (m cap : Nat) (L : List Prw) (name dirs : ByteArray) (hm : m ≤ 1000000) (hns : name.size ≤ 1000000) (hds : dirs.size ≤ 1000000) (hls : ∀ p ∈ L, p.1.size ≤ 1000000 ∧ p.2.size ≤ 1000000) (w : World)
  (hC : DrC w Bb Bn Bd a m cap L name dirs) :
  SeqL n Tryz.prog 85 #[.pointer (some ⟨Bb, 0, none⟩), .pointer (some ⟨Bn, 0, none⟩), .pointer (some ⟨Bd, 0, none⟩)] (fun x : Wd => #[.string x.1]) (fun pre x => (pre ++ [x]).map bytesOf <+: dirL L (tl name) (tl dirs)) (fun ys => ys.map bytesOf = dirL L (tl name) (tl dirs)) (fun _ => True) w :=
 fun l J Jx W hW hJ _ hY h0 => dirs1_in n l hn Bb Bn Bd a m cap L name dirs hm hns hds hls J Jx W (hC.lies (Lies.below hW)) hJ hY h0
end Go.Proofs.YtabmnkddmdffkaaGreatDoor.Sk
namespace Go.Proofs.YtabmnkddmdffkaaGreatDoor.Pt
open Go.RowKit Go.Shelf
theorem ip_yes (l : List UInt8) (h : opn l = true) : ip l = fp l := by unfold ip; rw [if_pos h]
theorem ip_no (l : List UInt8) (h : opn l = false) : ip l = -1 := by unfold ip; rw [h]; rfl
theorem ret_tup2 {l : List UInt8} {y : Bool} {x : List UInt8 × Bool} (h : (l, y) = x) : Ending.returned (.tuple #[.string (mk l), .bool y]) = .returned (.tuple #[.string (mk x.1), .bool x.2]) := by rw [← h]
theorem rm_at (p s : ByteArray) (m : Nat) (ho : opn (tl p) = true) (hm : m = fp (tl p)) : mt (tl p) (tl s) = if (decide (m + (p.size - (m + 1)) ≤ s.size) && (((tl s).take m == (tl p).take m) && ((tl s).drop (s.size - (p.size - (m + 1))) == (tl p).drop (m + 1)))) then ((((tl s).drop m).take (s.size - m - (p.size - (m + 1)))), true) else ([], false) := by
 unfold mt ms
 rw [ho, both_iff]
 unfold stem
 rw [ahd_len, bhd_len, tl_len, tl_len]
 unfold ahd bhd
 rw [← hm]
 rfl
theorem ext_list (s : ByteArray) (a b : Nat) : (s.extract a b).toList = ((tl s).drop a).take (b - a) := Lib.extract_toList s a b
theorem ext_all (s : ByteArray) (a : Nat) : (s.extract a s.size).toList = (tl s).drop a := by rw [ext_list, List.take_of_length_le (by rw [List.length_drop, tl_len]; omega)]
theorem rm_no1 (p s : ByteArray) (m : Nat) (ho : opn (tl p) = true) (hm : m = fp (tl p)) (h : s.size < m + (p.size - (m + 1))) : mt (tl p) (tl s) = ([], false) := by
 rw [rm_at p s m ho hm, if_neg]
 simp; omega
theorem rm_no2 (p s : ByteArray) (m : Nat) (ho : opn (tl p) = true) (hm : m = fp (tl p)) (h : ¬ (s.extract 0 (min m p.size)).toList = (p.extract 0 m).toList) : mt (tl p) (tl s) = ([], false) := by
 have hf := fp_yes _ ho
 rw [tl_len, ← hm] at hf
 rw [Nat.min_eq_left (by omega), ext_list, ext_list, List.drop_zero, List.drop_zero] at h
 rw [rm_at p s m ho hm, if_neg]
 intro e
 simp at e
 exact h e.2.1
theorem rm_no3 (p s : ByteArray) (m : Nat) (ho : opn (tl p) = true) (hm : m = fp (tl p)) (h : ¬ (s.extract (s.size - (p.size - (m + 1))) s.size).toList = (p.extract (m + 1) p.size).toList) : mt (tl p) (tl s) = ([], false) := by
 rw [ext_all, ext_all] at h
 rw [rm_at p s m ho hm, if_neg]
 intro e
 simp at e
 exact h e.2.2
theorem rm_yes (p s : ByteArray) (m : Nat) (ho : opn (tl p) = true) (hm : m = fp (tl p)) (h1 : m + (p.size - (m + 1)) ≤ s.size) (h2 : (s.extract 0 (min m p.size)).toList = (p.extract 0 m).toList)
  (h3 : (s.extract (s.size - (p.size - (m + 1))) s.size).toList = (p.extract (m + 1) p.size).toList) : mt (tl p) (tl s) = (tl (s.extract (min m p.size) (s.size - (p.size - (m + 1)))), true) := by
 have hf := fp_yes _ ho
 rw [tl_len, ← hm] at hf
 rw [Nat.min_eq_left (by omega), ext_list, ext_list, List.drop_zero, List.drop_zero] at h2
 rw [ext_all, ext_all] at h3
 rw [Nat.min_eq_left (by omega), rm_at p s m ho hm, if_pos, ext_mk, tl_mk (((tl s).drop m).take _)]
 ·rw [show s.size - (p.size - (m + 1)) - m = s.size - m - (p.size - (m + 1)) by omega]
 ·simp only [Nat.sub_zero] at h2
  simp [h1, h2, h3]
theorem rmatch_any (p s : ByteArray) (w : World) (hp : p.size ≤ 1000000) (hs : s.size ≤ 1000000) :
  Calls Tryz.prog 31 #[.string p, .string s] w fun e w' => e = .returned (.tuple #[.string (mk (mt (tl p) (tl s)).1), .bool (mt (tl p) (tl s)).2]) ∧ w' = w := by
 have q := fun w => rindex_any p w hp
 cases ho : opn (tl p) with
 | false =>
  rw [ip_no _ ho] at q
  have hx : mt (tl p) (tl s) = ([], tl s == tl p) := by unfold mt ms; rw [ho, ahd_no _ ho]; rfl
  rw [hx]
  have e3 := beq_list p s
  have e4 : (tl s == tl p) = (tl p == tl s) := Bool.beq_comm
  dsimp only
  rw [e4]
  generalize (tl p == tl s) = r at e3
  clear ho hx e4
  go_enter Tryz.func31, Tryz.ntmps31
  go_wp2_with fail
  refine (q _).mono ?_
  rintro e w1 ⟨rfl, rfl⟩
  go_wp2
  go_ret2
  exact ⟨rfl, rfl⟩
 | true =>
  rw [ip_yes _ ho] at q
  have hf := fp_yes _ ho
  rw [tl_len] at hf
  obtain ⟨x, hx⟩ : ∃ x, x = mt (tl p) (tl s) := ⟨_, rfl⟩
  rw [← hx]
  obtain ⟨m, hm⟩ : ∃ m, m = fp (tl p) := ⟨_, rfl⟩
  rw [← hm] at q hf
  have HX := hide' hx
  have HM := hide' hm
  clear hx hm
  go_enter Tryz.func31, Tryz.ntmps31
  go_wp2_with fail
  refine (q _).mono ?_
  rintro e w1 ⟨rfl, rfl⟩
  go_wp2
  ·rename_i h0 h1 h2 h3 h4 h5
   go_ret2
   exact ⟨ret_tup2 (HX.out.trans (rm_no3 p s _ ho HM.out (by
    rcases h5 with h5 | h5
    ·omega
    ·intro e
     rw [e] at h5
     simp at h5))).symm, rfl⟩
  ·rename_i h0 h1 h2 h3 h4 h5
   go_ret2
   exact ⟨ret_tup2 (HX.out.trans (rm_yes p s _ ho HM.out (by omega) h3 (by simpa using h5.2))).symm, rfl⟩
  ·rename_i h0 h1 h2 h3
   go_ret2
   exact ⟨ret_tup2 (HX.out.trans (rm_no2 p s _ ho HM.out h3)).symm, rfl⟩
  ·rename_i h0 h1
   go_ret2
   exact ⟨ret_tup2 (HX.out.trans (rm_no1 p s _ ho HM.out (by omega))).symm, rfl⟩
end Go.Proofs.YtabmnkddmdffkaaGreatDoor.Pt
