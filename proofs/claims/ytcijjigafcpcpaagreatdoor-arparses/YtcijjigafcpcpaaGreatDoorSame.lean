/- The contract of anvilref5.SameMembers. -/
import Derived.Test.YtcijjigafcpcpaaGreatDoorRws
import Derived.Test.YtcijjigafcpcpaaGreatDoorCvt
import Derived.Deep.QuietTactic
import Derived.BigQuiet
import Derived.Deep.Cut
namespace Go.Proofs.YtcijjigafcpcpaaGreatDoor
open Go.RowKit Go.Maps

theorem quiet_conv {o : Oper} {a : Act} {C : World → Prop} {K : Act → Prop} (x : Operand) (h : o.op = .convert 26 9 x) (v : Value) (bs : Bs) (hx : a.eval x = v) (hr : ∀ w, C w → (convert 26 9 v).run Tryz.prog w = .ok (.string (mk bs)) w) (hk : K (a.put o.dst (.string (mk bs)))) : o.quiet Tryz.prog a C K :=
  ⟨_, fun w hw => by
    unfold Oper.quietAt execOp
    simp only [h, Sem.run_bind, hx, hr w hw, Result.andThen_ok, Sem.run_pure]
    exact ⟨rfl, rfl⟩, hk⟩
set_option maxRecDepth 100000 in
set_option maxHeartbeats 4000000 in
theorem same_row (g o cap g' o' cap' : Nat) (ns ms : List Mv) (w : World) (h : MRow w g o ns) (hr : ∀ n ∈ ns, Rds w n.dv n.data) (h' : MRow w g' o' ms) (hr' : ∀ n ∈ ms, Rds w n.dv n.data) (hl : ns.length = ms.length) (hml : ms.length ≤ 1000000) (_hc : ms.length ≤ cap) (_hc' : ms.length ≤ cap') :
    Calls Tryz.prog 17 #[.slice (some ⟨g, o, none⟩) ms.length cap, .slice (some ⟨g', o', none⟩) ms.length cap'] w fun r w' => (∃ b, r = .returned (.bool b) ∧ (b = true ↔ ns.map toE = ms.map toE)) ∧ Below w.heap.size w w' := by
  go_enter Tryz.func17, Tryz.ntmps17
  go_wp2
  go_loopw [5] (fun i wr => ∃ k : Nat, k ≤ ms.length ∧ i = .int .i64 k ∧ (ns.take k).map toE = (ms.take k).map toE ∧ Below w.heap.size w wr) (fun i _ => ms.length - (intOf i).toNat)
  case atStart => exact ⟨0, by omega, rfl, rfl, Below.refl _ _⟩
  case round =>
    obtain ⟨k, hk, rfl, hE, hB⟩ := hrel
    by_cases hkl : k < ms.length
    · obtain ⟨n, hn⟩ : ∃ n, ns[k]? = some n := ⟨_, List.getElem?_eq_getElem (by omega)⟩
      obtain ⟨m, hm⟩ : ∃ m, ms[k]? = some m := ⟨_, List.getElem?_eq_getElem hkl⟩
      have hR := h.below hB
      have hR' := h'.below hB
      have d0 := hR.c0 k n hn
      have d1 := hR.c1 k n hn
      have d2 := hR.c2 k n hn
      have e0 := hR'.c0 k m hm
      have e1 := hR'.c1 k m hm
      have e2 := hR'.c2 k m hm
      have hrn := (hr n (List.mem_of_getElem? hn)).below hB
      have hrm := (hr' m (List.mem_of_getElem? hm)).below hB
      obtain ⟨da, dc, hdv⟩ := hrn.len
      obtain ⟨ea, ec, hev⟩ := hrm.len
      rw [hdv] at d2 hrn
      rw [hev] at e2 hrm
      have k2 : (k : Int) < ms.length := by omega
      have hne := map_ne hn hm
      have hst := map_step hn hm hE
      rw [toE_iff] at hne hst
      obtain ⟨p, t, dv, x⟩ := n
      obtain ⟨p', t', dv', x'⟩ := m
      simp only at *
      clear hR hR' h h' hr hr' hn hm
      have hBd : ∀ n, Below w.heap.size w (wr.drewN n) := fun n => hB.trans (below_drewn n)
      by_cases h1 : p = p'
      · subst h1
        by_cases h2 : t = t'
        · subst h2
          go_wp2
          refine wp_region_quiet_lit (by kernel_rfl) (by kernel_rfl) ?_
          repeat (go_big_quiet_step (fail))
          go_big_quiet_want
          refine quiet_conv _ rfl _ x rfl (fun w hw => by obtain ⟨n, rfl⟩ := hw; exact rds_str (hrn.below (below_drewn n))) ?_
          go_big_quiet_on
          go_simp
          repeat (go_big_quiet_step (fail))
          go_big_quiet_want
          refine quiet_conv _ rfl _ x' rfl (fun w hw => by obtain ⟨n, rfl⟩ := hw; exact rds_str (hrm.below (below_drewn n))) ?_
          go_big_quiet_on
          go_simp
          repeat (go_big_quiet_step (fail))
          refine wpQuiet_nil ?_
          intro nq
          go_wp2
          · rename_i hx
            have hbad := hne (fun e => by rw [e.2.2] at hx; simp at hx)
            go_ret
            exact ⟨⟨false, rfl, by simp [hbad]⟩, hBd _⟩
          · rename_i hx
            have h3 : x = x' := by simpa using hx
            exact ⟨⟨k + 1, by omega, by simp, hst ⟨trivial, trivial, h3⟩, hBd _⟩, by simp [intOf]; omega⟩
        · have hbad := hne (fun e => h2 e.2.1)
          have h5 : decide (t = t') = false := decide_eq_false h2
          have h6 : (t != t') = true := bne_iff_ne.2 h2
          go_wp2
          refine wp_region_quiet_lit (by kernel_rfl) (by kernel_rfl) ?_
          repeat (go_big_quiet_step (fail))
          try rw [h6]
          repeat (go_big_quiet_step (fail))
          refine wpQuiet_nil ?_
          intro _ hw'
          obtain ⟨nq, hw''⟩ := hw'
          subst hw''
          go_wp2
          go_ret
          exact ⟨⟨false, rfl, by simp [hbad]⟩, hBd _⟩
      · have hbad := hne (fun e => h1 e.1)
        have h6 : (p == p') = false := beq_eq_false_iff_ne.2 h1
        go_wp2
        refine wp_region_quiet_lit (by kernel_rfl) (by kernel_rfl) ?_
        repeat (go_big_quiet_step (fail))
        try rw [h6]
        try rw [Bool.not_false]
        repeat (go_big_quiet_step (fail))
        refine wpQuiet_nil ?_
        intro _ hw'
        obtain ⟨nq, hw''⟩ := hw'
        subst hw''
        go_wp2
        go_ret
        exact ⟨⟨false, rfl, by simp [hbad]⟩, hBd _⟩
    · obtain rfl : k = ms.length := by omega
      rw [List.take_length, ← hl, List.take_length] at hE
      go_wp2
      go_ret
      exact ⟨⟨true, rfl, by simp [hE]⟩, hB⟩
theorem same_nil (a a' : Option Addr) (cap cap' : Nat) (w : World) :
    Calls Tryz.prog 17 #[.slice a 0 cap, .slice a' 0 cap'] w fun r w' => r = .returned (.bool true) ∧ Below w.heap.size w w' := by
  go_enter Tryz.func17, Tryz.ntmps17
  go_wp2
  go_loopw [5] (fun i wr => i = .int .i64 0 ∧ wr = w) (fun _ _ => 0)
  case atStart => exact ⟨rfl, rfl⟩
  case round =>
    obtain ⟨rfl, rfl⟩ := hrel
    go_wp2
    go_ret
    exact ⟨rfl, Below.refl _ _⟩
/-- the numbers of members are not one -/
theorem same_no (a a' : Option Addr) (n n' cap cap' : Nat) (w : World) (h : ¬ n = n') :
    Calls Tryz.prog 17 #[.slice a n cap, .slice a' n' cap'] w fun r w' => r = .returned (.bool false) ∧ Below w.heap.size w w' := by
  have h4 : ((n : Int) == (n' : Int)) = false := beq_eq_false_iff_ne.2 (by omega)
  have h5 : ¬ (n : Int) = (n' : Int) := by omega
  go_enter Tryz.func17, Tryz.ntmps17
  go_wp2
  go_ret
  exact ⟨rfl, Below.refl _ _⟩
/-- SameMembers -/
theorem Same_any (v v' : Value) (ns ms : List Mv) (w : World) (h : Mems w v ns) (h' : Mems w v' ms) (hml : ms.length ≤ 1000000) :
    Calls Tryz.prog 17 #[v, v'] w fun r w' => (∃ b, r = .returned (.bool b) ∧ (b = true ↔ ns.map toE = ms.map toE)) ∧ Below w.heap.size w w' := by
  by_cases hl : ns.length = ms.length
  · rcases h' with ⟨⟨a', c', rfl⟩, rfl⟩ | ⟨g', o', cap', rfl, h0', h1', h2'⟩
    · obtain rfl : ns = [] := List.length_eq_zero_iff.1 hl
      obtain ⟨a, c, rfl⟩ := h.len
      exact (same_nil a a' c c' w).mono fun r w' ⟨hr, hb⟩ => ⟨⟨true, hr, by simp⟩, hb⟩
    · rcases h with ⟨⟨a, c, rfl⟩, rfl⟩ | ⟨g, o, cap, rfl, h0, h1, h2⟩
      · obtain rfl : ms = [] := List.length_eq_zero_iff.1 hl.symm
        exact (same_nil a _ c cap' w).mono fun r w' ⟨hr, hb⟩ => ⟨⟨true, hr, by simp⟩, hb⟩
      · rw [hl] at h0 ⊢
        exact same_row g o cap g' o' cap' ns ms w h1 h2 h1' h2' hl hml h0 h0'
  · obtain ⟨a, c, rfl⟩ := h.len
    obtain ⟨a', c', rfl⟩ := h'.len
    refine (same_no a a' ns.length ms.length c c' w hl).mono fun r w' ⟨hr, hb⟩ => ⟨⟨false, hr, ?_⟩, hb⟩
    constructor
    · intro e; cases e
    · intro e3
      exact absurd (by have := congrArg List.length e3; simpa using this) hl
end Go.Proofs.YtcijjigafcpcpaaGreatDoor
