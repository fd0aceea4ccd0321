/- The contract of vfs.nameEnds and of the iterator that it hands back: it yields where the names of a path end. -/
import Derived.Test.YtabmnkddmdffkaaGreatDoorAPut
import Derived.RangeFuncNested
import Derived.RangeFuncBound
import Derived.RangeFuncCalls
import Derived.RangeFuncLeaves
import Derived.RangeFuncBox
import Derived.Shelf.Abstract
import Derived.Shelf.RegionOpen
import Derived.OwnWalkIn
import Derived.TacticsInMore
import Derived.LoopNIn
import Derived.LoopIn
namespace Go.Proofs.YtabmnkddmdffkaaGreatDoor
open Go.RowKit Go.Shelf
attribute [local go_sem] Oper.semAt_some

/-- what a round must keep: every block below N but A -/
def Kf (A N : Nat) (W W' : World) : Prop := W.heap.size ≤ W'.heap.size ∧ ∀ k, k < N → k ≠ A → W'.heap[k]? = W.heap[k]?
theorem Kf.refl (A N : Nat) (W : World) : Kf A N W W := ⟨Nat.le_refl _, fun _ _ _ => rfl⟩
theorem Kf.t {A N : Nat} {X Y Z : World} (h : Kf A N X Y) (k : Kf A N Y Z) : Kf A N X Z := ⟨Nat.le_trans h.1 k.1, fun i hi hA => (k.2 i hi hA).trans (h.2 i hi hA)⟩
theorem Kf.b {A N : Nat} (W : World) (l : Nat) (o' : Obj) (hl : N ≤ l) : Kf A N W (W.putObj l o') := ⟨by simp, fun k hk _ => World.putObj_heap_other (by omega)⟩
theorem Kf.below {A N : Nat} {W W' : World} (h : Below W.heap.size W W') (hN : N ≤ W.heap.size) : Kf A N W W' := ⟨h.size, fun k hk _ => h.block k (by omega)⟩
theorem Kf.cell {A N : Nat} {W W' : World} (h : Kf A N W W') (b i : Nat) (hb : b < N) (hA : b ≠ A) : W'.cell? ⟨b, i, none⟩ = W.cell? ⟨b, i, none⟩ := by simp only [World.cell?, h.2 b hb hA]

/-- a place within a path -/
abbrev Pl (p : Bs) := { i : Nat // i ≤ p.length }
def pls {p : Bs} (l : List (Pl p)) : List Nat := l.map (·.1)
def isEnd (p : Bs) (i : Nat) : Bool := i == p.length || p.getD i 0 == 47
def endsTo (p : Bs) (k : Nat) : List Nat := ((List.range k).map (· + 1)).filter (isEnd p)
theorem ends_eq (p : Bs) : ends p = endsTo p p.length := rfl
theorem endsTo_yes (p : Bs) (k : Nat) (h : isEnd p (k + 1) = true) : endsTo p (k + 1) = endsTo p k ++ [k + 1] := by
  unfold endsTo
  rw [List.range_succ, List.map_append, List.filter_append]
  simp [h]
theorem endsTo_no (p : Bs) (k : Nat) (h : isEnd p (k + 1) = false) : endsTo p (k + 1) = endsTo p k := by
  unfold endsTo
  rw [List.range_succ, List.map_append, List.filter_append]
  simp [h]
theorem endsTo_prefix (p : Bs) {j m : Nat} (h : j ≤ m) : endsTo p j <+: endsTo p m := by
  induction m with
  | zero => have : j = 0 := by omega
            subst this; exact List.prefix_refl _
  | succ m ih =>
    by_cases e : j = m + 1
    · subst e; exact List.prefix_refl _
    · refine (ih (by omega)).trans ?_
      cases hc : isEnd p (m + 1) with
      | true => rw [endsTo_yes p m hc]; exact List.prefix_append _ _
      | false => rw [endsTo_no p m hc]; exact List.prefix_refl _

theorem nameEnds_any (p : Bs) (w : World) : Calls Tryz.prog 100 #[.string (mk p)] w fun e w' => e = .returned (.func (.func 132) #[] #[.pointer (some ⟨w.heap.size, 0, none⟩)]) ∧ w' = w.alloc (.cells #[.string (mk p)] 9) := by
  go_enter Tryz.func100, Tryz.ntmps100
  go_wp2
  go_ret
  exact ⟨rfl, rfl⟩

set_option maxRecDepth 100000 in
set_option maxHeartbeats 2000000 in
theorem ends1_in (n : Nat) (hn : 1 ≤ n) (l A N Bp : Nat) (p : Bs) (hp : p.length ≤ 1000) (J Jx : List (Pl p) → World → Prop)
    (hY : ∀ pre x W, J pre W → pre.length < p.length → YieldAt Fence.wide (n - 1) Tryz.prog l #[.int .i64 x.1] W fun e W' =>
      (e = .returned (.bool true) ∧ J (pre ++ [x]) W' ∧ Kf A N W W') ∨ (e = .returned (.bool false) ∧ Jx (pre ++ [x]) W'))
    (W : World) (hE : ∀ W', Kf A N W W' → W'.cell? ⟨Bp, 0, none⟩ = some (.string (mk p))) (h0 : J [] W) :
    CallsIn Fence.wide n Tryz.prog 132 #[.func (.yield l) #[] #[], .pointer (some ⟨Bp, 0, none⟩)] W fun e W' => (∃ v, e = .returned v) ∧
      ((∃ ys : List (Pl p), pls ys = ends p ∧ J ys W') ∨ (∃ pre, pls pre <+: ends p ∧ Jx pre W')) := by
  obtain ⟨s, hs⟩ : ∃ s, s = mk p := ⟨_, rfl⟩
  rw [← hs] at hE
  have HE := hide' hE
  have HY := hide' hY
  have hms : s.size = p.length := by rw [hs, mk_size]
  have HG : Hid (∀ (j : Nat) (h : j < s.size), p.getD j 0 = s[j]) := by
    intro j h
    have ht : tl s = p := by rw [hs, tl_mk]
    rw [← ht]
    exact getD_at s j h
  clear hE hY hs
  refine callsIn_of_wp Tryz.func132 rfl trivial ?_ rfl
  simp only [Tryz.ntmps132, List.size_toArray, List.length_cons, List.length_nil, Nat.reduceAdd, Nat.reduceSub, Array.replicate_succ, Array.replicate_zero, List.push_toArray, List.append_toArray, List.nil_append, List.cons_append]
  gi_wp2
  gi_loopw [3] (fun i wr => ∃ (k : Nat) (pre : List (Pl p)), k ≤ p.length ∧ pre.length ≤ k ∧ i = .int .i64 ((k : Int) + 1) ∧ Kf A N W wr ∧ Hid (pls pre = endsTo p k) ∧ J pre wr)
    (fun i _ => p.length + 1 - (intOf i).toNat)
  case atStart => exact ⟨0, [], Nat.zero_le _, Nat.le_refl _, rfl, Kf.refl A N W, rfl, h0⟩
  case round =>
    obtain ⟨k, pre, hk, hpl, rfl, hKf, HW, hJs⟩ := hrel
    have c0 := HE.out wr hKf
    by_cases hlt : k < p.length
    · by_cases hc : k + 1 = p.length
      · have hin : isEnd p (k + 1) = true := by unfold isEnd; simp [hc]
        obtain ⟨fn, tmps, assign, body, hy, hRd⟩ := HY.out pre ⟨k + 1, by omega⟩ wr hJs (by omega)
        have b1 : ((k : Int) + 1 == (p.length : Int)) = true := beq_iff_eq.2 (by omega)
        have b2 : ((k : Int) + 1 == (s.size : Int)) = true := beq_iff_eq.2 (by omega)
        dsimp only at hy
        rw [show ((k + 1 : Nat) : Int) = (k : Int) + 1 by omega] at hy
        gi_wp2
        refine hRd.mono ?_
        rintro e W3 (⟨rfl, hJ3, hk3⟩ | ⟨rfl, hJx3⟩)
        · gi_wp2
          go_roundw
          case rel => exact ⟨k + 1, pre ++ [⟨k + 1, by omega⟩], by omega, by simp; omega, by go_num, hKf.t hk3, by show pls _ = _; rw [endsTo_yes p k hin, ← HW.out]; simp [pls], hJ3⟩
          case measure => simp [intOf]; omega
        · gi_wp2
          refine bodyPost_ret (results_none rfl _ _ _) rfl ?_
          refine ⟨⟨_, rfl⟩, .inr ⟨pre ++ [⟨k + 1, by omega⟩], ?_, hJx3⟩⟩
          have e1 : pls (pre ++ [(⟨k + 1, by omega⟩ : Pl p)]) = endsTo p (k + 1) := by rw [endsTo_yes p k hin, ← HW.out]; simp [pls]
          rw [e1, ends_eq]
          exact endsTo_prefix p (by omega)
      · have hk1 : k + 1 < s.size := by omega
        have hg := HG.out (k + 1) hk1
        have b1 : ((k : Int) + 1 == (p.length : Int)) = false := beq_eq_false_iff_ne.2 (by omega)
        have b2 : ((k : Int) + 1 == (s.size : Int)) = false := beq_eq_false_iff_ne.2 (by omega)
        by_cases h47 : s[k + 1] = 47
        · have hin : isEnd p (k + 1) = true := by unfold isEnd; rw [hg, h47]; simp
          have k2 := beq_yes s[k + 1] 47 47 rfl h47
          have k3 : (s[k + 1].toNat : Int) = 47 := by rw [h47]; rfl
          obtain ⟨fn, tmps, assign, body, hy, hRd⟩ := HY.out pre ⟨k + 1, by omega⟩ wr hJs (by omega)
          clear hg h47
          dsimp only at hy
          rw [show ((k + 1 : Nat) : Int) = (k : Int) + 1 by omega] at hy
          gi_wp2
          refine hRd.mono ?_
          rintro e W3 (⟨rfl, hJ3, hk3⟩ | ⟨rfl, hJx3⟩)
          · gi_wp2
            go_roundw
            case rel => exact ⟨k + 1, pre ++ [⟨k + 1, by omega⟩], by omega, by simp; omega, by go_num, hKf.t hk3, by show pls _ = _; rw [endsTo_yes p k hin, ← HW.out]; simp [pls], hJ3⟩
            case measure => simp [intOf]; omega
          · gi_wp2
            refine bodyPost_ret (results_none rfl _ _ _) rfl ?_
            refine ⟨⟨_, rfl⟩, .inr ⟨pre ++ [⟨k + 1, by omega⟩], ?_, hJx3⟩⟩
            have e1 : pls (pre ++ [(⟨k + 1, by omega⟩ : Pl p)]) = endsTo p (k + 1) := by rw [endsTo_yes p k hin, ← HW.out]; simp [pls]
            rw [e1, ends_eq]
            exact endsTo_prefix p (by omega)
        · have hin : isEnd p (k + 1) = false := by unfold isEnd; rw [hg]; simp [h47]; omega
          have k2 := beq_no s[k + 1] 47 47 rfl h47
          have k3 : ¬ (s[k + 1].toNat : Int) = 47 := fun e => h47 (UInt8.toNat_inj.1 (by have : (47 : UInt8).toNat = 47 := rfl; omega))
          clear hg h47
          gi_wp2
          refine ⟨fun _ h => (by cases h), ?_⟩
          gi_wp2
          go_roundw
          case rel => exact ⟨k + 1, pre, by omega, by omega, by go_num, hKf, by show pls _ = _; rw [endsTo_no p k hin, ← HW.out], hJs⟩
          case measure => simp [intOf]; omega
    · gi_wp2
      go_end0
      have hk2 : k = p.length := by omega
      exact ⟨⟨_, rfl⟩, .inl ⟨pre, by rw [ends_eq, ← hk2]; exact HW.out, hJs⟩⟩
/-- the places, in order, while the path's box is kept -/
theorem ends_stops (n : Nat) (hn : 1 ≤ n) (A N Bp : Nat) (p : Bs) (hp : p.length ≤ 1000) (w : World) (hN : N ≤ w.heap.size) (hE : ∀ W', Kf A N w W' → W'.cell? ⟨Bp, 0, none⟩ = some (.string (mk p))) :
    SeqStopsK Fence.wide n Tryz.prog 132 #[.pointer (some ⟨Bp, 0, none⟩)] (fun x : Pl p => #[Value.int .i64 x.1]) (Kf A N) (fun ys => pls ys = ends p) (fun pre => pls pre <+: ends p) p.length w := fun l J Jx W hW _ _ hY h0 =>
  ends1_in n hn l A N Bp p hp J Jx hY W (fun W' h => hE W' ((Kf.below hW hN).t h)) h0
end Go.Proofs.YtabmnkddmdffkaaGreatDoor
