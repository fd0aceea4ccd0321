/- DB.Special where one rule has the name; sameInts of lists that are the same. -/
import Derived.Test.YtkmedgdpcifnoaaDoorAc
import Derived.Deep.QuietTactic
import Derived.Deep.Cut
import Derived.Deep.CutBlock
namespace Go.Proofs.YtkmedgdpcifnoaaDoor
open Go.RowKit Go.Shelf

theorem ints_cell {W : World} {B : Nat} {v : Value} {l : List Nat} (h : W.ownsInts B 3 .i64 v (nI l)) (j : Nat) (hj : j < l.length) : ∃ g c, v = .slice (some ⟨g, 0, none⟩) l.length c ∧ W.cell? ⟨g, j, none⟩ = some (.int .i64 ((l.getD j 0 : Nat) : Int)) := by
  rcases h.1.2 with ⟨_, h0⟩ | ⟨g, cap, cur, rfl, _⟩
  · rw [nI_len] at h0; omega
  · refine ⟨g, cap, by rw [nI_len], ?_⟩
    have := own_cells h.1 j (.int .i64 ((l.getD j 0 : Nat) : Int)) (by unfold nI; rw [List.getElem?_map, List.getElem?_map, List.getD_eq_getElem?_getD, List.getElem?_eq_getElem hj]; rfl)
    rwa [Addr.add_lit, Nat.zero_add] at this
set_option maxRecDepth 100000 in
set_option maxHeartbeats 2000000 in
theorem same_any (B1 B2 : Nat) (v1 v2 : Value) (l : List Nat) (w : World) (h1 : w.ownsInts B1 3 .i64 v1 (nI l)) (h2 : w.ownsInts B2 3 .i64 v2 (nI l)) (hl : l.length ≤ 1000000) :
    Calls Tryd.prog 15 #[v1, v2] w fun e w' => e = .returned (.bool true) ∧ Below w.heap.size w w' := by
  obtain ⟨a1, c1, rfl⟩ := own_len h1.1
  obtain ⟨a2, c2, rfl⟩ := own_len h2.1
  rw [nI_len] at h1 h2 ⊢
  have H1 := hide' h1
  have H2 := hide' h2
  clear h1 h2
  have d0 : (((l.length : Nat) : Int) != ((l.length : Nat) : Int)) = false := by simp
  go_enter Tryd.func15, Tryd.ntmps15
  go_wp2
  go_loopw [5] (fun i wr => ∃ k : Nat, k ≤ l.length ∧ i = .int .i64 k ∧ Below w.heap.size w wr) (fun i _ => l.length - (intOf i).toNat)
  case atStart => exact ⟨0, Nat.zero_le _, rfl, Below.refl _ _⟩
  case round =>
    obtain ⟨k, hk, rfl, hB⟩ := hrel
    by_cases hlt : k < l.length
    · obtain ⟨g1, e1, q1, z1⟩ := ints_cell (W := wr) (B := B1) (v := .slice a1 l.length c1) ⟨own_below H1.out.1 hB, H1.out.2⟩ k hlt
      obtain ⟨g2, e2, q2, z2⟩ := ints_cell (W := wr) (B := B2) (v := .slice a2 l.length c2) ⟨own_below H2.out.1 hB, H2.out.2⟩ k hlt
      simp only [Value.slice.injEq, true_and] at q1 q2
      obtain ⟨rfl, rfl⟩ := q1
      obtain ⟨rfl, rfl⟩ := q2
      generalize l.getD k 0 = x at z1 z2
      have d1 : ((x : Int) != (x : Int)) = false := by simp
      go_wp2
      go_quiet (fail)
      rename_i nq
      go_wp2
      exact ⟨⟨k + 1, by omega, by go_num, below_drewN hB nq⟩, by simp [intOf]; omega⟩
    · go_wp2
      go_ret
      exact ⟨rfl, hB⟩
set_option maxRecDepth 100000 in
set_option maxHeartbeats 4000000 in
theorem special_one (D B BG M n k : Nat) (f : Pf) (rv v1 v3 : Value) (R : List Rx) (x y : Bs) (w : World) (hd : DbC w D rv v1 (.map (some M)) v3) (hR : OwnR w B rv R) (hg : GrAt w BG M n f) (hn : n ≤ 1000000000) (hx : x.length ≤ maxLen) (hf : f x 0 = [k]) (hk : k < R.length)
    (ha : speA x = false) (hp : (R.getD k zeroRx).r.ps.length ≤ 100000) (hy : hasB (R.getD k zeroRx).r.ps y = true) :
    Calls Tryd.prog 22 #[.pointer (some ⟨D, 0, none⟩), sV x, sV y] w fun e w' => e = .returned (.bool true) ∧ w' = w := by
  have kO := orEmpty_any D w
  have kS := special_any x w
  rw [ha] at kS
  generalize speI x = sI at kS
  obtain ⟨v, hr, hoi, _, _⟩ := hg.look hn x 0 hx (by decide)
  rw [hf] at hoi
  obtain ⟨gi, ci, rfl, zi⟩ := ints_cell hoi 0 (by simp)
  have zi : w.cell? ⟨gi, 0, none⟩ = some (.int .i64 (k : Int)) := zi
  obtain ⟨gr, cr, rfl, hra, _⟩ := ownR_some hR k hk
  have hrx := hR.lists _ (show R.getD k zeroRx ∈ R by rw [List.getD_eq_getElem?_getD, List.getElem?_eq_getElem hk]; exact List.getElem_mem hk)
  have kC := fun W (hW : W = w) => contains_any (R.getD k zeroRx).r.ps (R.getD k zeroRx).b y W hp (hW ▸ Strs.of_row hrx.ps)
  rw [hy] at kC
  have c0 := hd.c0
  have c2 := hd.c2
  have q1 := hra.c1
  obtain ⟨pa, pn, pc, hpv⟩ := own_form3 hrx.ps
  rw [hpv] at q1 kC
  rw [Nat.zero_add] at q1
  have hr : (Instr.lookup 55 (.map (some M)) (.agg #[.string (mk x), .int .i64 0]) false).run Tryd.prog w = .ok (.slice (some ⟨gi, 0, none⟩) 1 ci) w := hr
  show Calls Tryd.prog 22 #[.pointer (some ⟨D, 0, none⟩), .string (mk x), .string (mk y)] w _
  have kS : Calls Tryd.prog 48 #[.string (mk x)] w _ := kS
  rename_i kS0
  clear kS0
  have kC : ∀ W, W = w → Calls Tryd.prog 49 #[.slice pa pn pc, .string (mk y)] W _ := kC
  rename_i kC0
  clear kC0
  generalize mk x = sx at hr kS ⊢
  generalize mk y = sy at kC ⊢
  clear hd hR hg hoi hra hrx hf hp hy ha hpv hx
  go_enter Tryd.func22, Tryd.ntmps22
  go_wp2_with fail
  refine kO.mono ?_
  rintro e w1 ⟨rfl, rfl⟩
  dsimp only
  clear kO
  go_wp2_with fail
  refine kS.mono ?_
  rintro e w2 ⟨rfl, rfl⟩
  dsimp only
  clear kS
  go_wp2
  refine wp_loop_rounds 1 ?_
  rw [rounds_succ]
  go_wp2_with fail
  refine (kC _ rfl).mono ?_
  rintro e w3 ⟨rfl, rfl⟩
  dsimp only
  clear kC
  go_wp2
  go_ret
  exact ⟨rfl, rfl⟩
end Go.Proofs.YtkmedgdpcifnoaaDoor
