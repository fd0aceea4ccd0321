/- What a base is asked: Rules, Implicit, Named, Special. -/
import Derived.Test.YtkmedgdpcifnoaaDoorNw
import Derived.Test.YtkmedgdpcifnoaaDoorSpe
import Derived.Deep.QuietTactic
import Derived.Deep.Cut
import Derived.Deep.CutBlock
namespace Go.Proofs.YtkmedgdpcifnoaaDoor
open Go.RowKit Go.Shelf

theorem orEmpty_any (D : Nat) (w : World) : Calls Tryd.prog 42 #[.pointer (some ⟨D, 0, none⟩)] w fun e w' => e = .returned (.pointer (some ⟨D, 0, none⟩)) ∧ w' = w := by
  go_enter Tryd.func42, Tryd.ntmps42
  go_wp2
  go_ret
  exact ⟨rfl, rfl⟩
theorem rules_any (D : Nat) (v0 v1 v2 v3 : Value) (A : List Rx) (w : World) (hd : DbC w D v0 v1 v2 v3) (hA : Rls w v1 A) (hl : A.length ≤ 100000) (hf : ∀ x ∈ A, FitR 100000000 x.r) :
    Calls Tryd.prog 13 #[.pointer (some ⟨D, 0, none⟩)] w fun e w' => ∃ v', e = .returned v' ∧ ∃ L', OwnR w' w.heap.size v' L' ∧ SameR A L' ∧ Below w.heap.size w w' := by
  obtain ⟨a, n, c, rfl⟩ : ∃ a n c, v1 = .slice a n c := by
    obtain ⟨a, c, e⟩ := hA.form
    exact ⟨_, _, _, e⟩
  have kO := orEmpty_any D w
  have kC := copiesOf_any A _ w hl hf hA
  have c1 := hd.c1
  clear hd hA hf hl
  go_enter Tryd.func13, Tryd.ntmps13
  go_wp2_with fail
  refine kO.mono ?_
  rintro e w1 ⟨rfl, rfl⟩
  dsimp only
  clear kO
  go_wp2_with fail
  refine kC.mono ?_
  rintro e w2 ⟨v', rfl, L', hO, hS, hb⟩
  dsimp only
  have HO := hide' (And.intro hO hS)
  clear hO hS kC
  go_wp2
  go_ret
  exact ⟨_, rfl, L', HO.out.1, HO.out.2, hb⟩
theorem clone_ints {B : Nat} {v : Value} {l : List Nat} (w : World) (hi : w.ownsInts B 3 .i64 v (nI l)) (hl : l.length ≤ 1000000) :
    Calls Tryd.prog 44 #[v] w fun e w' => ∃ v', e = .returned v' ∧ w'.ownsInts w.heap.size 3 .i64 v' (nI l) ∧ Below w.heap.size w w' := by
  rcases hi.1.2 with ⟨rfl, h0⟩ | ⟨g, cap, cur, rfl, hg, hgb, h1, h2, h3, h4⟩
  · refine (Tryd.slices_Clone_int_nil 0 0 w).mono ?_
    rintro e w' ⟨rfl, rfl⟩
    obtain rfl : l = [] := List.length_eq_zero_iff.1 (by rwa [nI_len] at h0)
    exact ⟨_, rfl, World.ownsInts_nil _ _ _ _, Below.refl _ _⟩
  · have hrow := hi.1
    refine (Tryd.slices_Clone_int g 0 (nI l).length cap (nI l) w (Nat.le_refl _) (by rw [nI_len]; omega) (fun j hj => ?_)).mono ?_
    · have := own_cells hrow j (.int .i64 ((nI l).getD j 0)) (by rw [List.getElem?_map, List.getD_eq_getElem?_getD, List.getElem?_eq_getElem hj]; rfl)
      rwa [Addr.add_lit] at this
    · rintro e w' ⟨v', rfl, ho, _, hb⟩
      rw [List.take_of_length_le (Nat.le_refl _)] at ho
      exact ⟨_, rfl, ⟨ho, hi.2⟩, hb⟩
theorem implicit_any (D B : Nat) (v0 v1 v2 v3 : Value) (l : List Nat) (w : World) (hd : DbC w D v0 v1 v2 v3) (hi : w.ownsInts B 3 .i64 v3 (nI l)) (hl : l.length ≤ 1000000) :
    Calls Tryd.prog 18 #[.pointer (some ⟨D, 0, none⟩)] w fun e w' => ∃ v', e = .returned v' ∧ w'.ownsInts w.heap.size 3 .i64 v' (nI l) ∧ Below w.heap.size w w' := by
  have kO := orEmpty_any D w
  have kC := clone_ints w hi hl
  obtain ⟨a, n, c, rfl⟩ := own_form3 hi.1
  have c3 := hd.c3
  clear hd hi hl
  go_enter Tryd.func18, Tryd.ntmps18
  go_wp2_with fail
  refine kO.mono ?_
  rintro e w1 ⟨rfl, rfl⟩
  dsimp only
  clear kO
  go_wp2_with fail
  refine kC.mono ?_
  rintro e w2 ⟨v', rfl, hI, hb⟩
  dsimp only
  have HO := hide' hI
  clear hI kC
  go_wp2
  go_ret
  exact ⟨_, rfl, HO.out, hb⟩
set_option maxHeartbeats 1000000 in
theorem has_any (D BG M n : Nat) (f : Pf) (v0 v1 v3 : Value) (x : Bs) (g : Nat) (b : Bool) (w : World) (hd : DbC w D v0 v1 (.map (some M)) v3) (hg : GrAt w BG M n f) (hn : n ≤ 1000000000) (hx : x.length ≤ maxLen) (hh : g ≤ 9) (hb : (0 < (f x g).length) = (b = true)) :
    Calls Tryd.prog 46 #[.pointer (some ⟨D, 0, none⟩), mV x g] w fun e w' => e = .returned (.bool b) ∧ Below w.heap.size w w' := by
  have hbm : Bm (w.alloc (.cells #[.string (mk x), .int .i64 g] 75)) w.heap.size (mk x) g := heap_alloc_new w _
  have hb1 : Below w.heap.size w (w.alloc (.cells #[.string (mk x), .int .i64 g] 75)) := below_alloc (Below.refl _ w) (Nat.le_refl _) _
  have hb2 := hb1.drew
  obtain ⟨v, hr, hoi, _, _⟩ := (hg.below hb2).look hn x g hx hh
  obtain ⟨a, c, rfl⟩ := own_len hoi.1
  rw [nI_len] at hr
  have e0 : (w.alloc (.cells #[.string (mk x), .int .i64 g] 75)).drew.cell? ⟨w.heap.size, 0, none⟩ = _ := hbm.c0
  have e1 : (w.alloc (.cells #[.string (mk x), .int .i64 g] 75)).drew.cell? ⟨w.heap.size, 1, none⟩ = _ := hbm.c1
  have c2 := (hd.below hb2).c2
  clear hd hg hoi hbm hb1
  generalize (f x g).length = m at hr hb
  have hr : (Instr.lookup 55 (.map (some M)) (.agg #[.string (mk x), .int .i64 g]) false).run Tryd.prog _ = _ := hr
  generalize hs : mk x = s at hr e0 e1 c2 hb2
  show Calls Tryd.prog 46 #[.pointer (some ⟨D, 0, none⟩), .agg #[.string (mk x), .int .i64 g]] w _
  rw [hs]
  clear hs
  go_enter Tryd.func46, Tryd.ntmps46
  go_upto_region 1 with fail
  generalize hw1 : w.alloc (.cells #[.string s, .int .i64 g] 75) = w1 at hr hb2 e0 e1 c2 ⊢
  clear hw1
  generalize hw2 : w1.drew = w2 at hr hb2 e0 e1 c2
  have hdb : decide (0 < m) = b := by rw [Bool.eq_iff_iff, decide_eq_true_iff, hb]
  clear hb
  have hdb := hide' hdb
  rename_i hdb0
  clear hdb0
  refine wp_region_class (C := fun W => W = w1.drew) (by kernel_rfl) ?_
  rw [hw2]
  have hC : w2 = w2 := rfl
  clear hw2
  (refine wpAnyC_take (i := 0) (v := ?_) hC rfl (by kernel_rfl) (by kernel_rfl) (by kernel_rfl) (fun _ _ _ h => h) (Or.inl ⟨by kernel_rfl, ?_⟩) ?_; rotate_left; (intro w hc; rw [hc]; clear hc; go_simp; try with_reducible rfl))
  (refine wpAnyC_take (i := 1) (v := ?_) hC rfl (by kernel_rfl) (by kernel_rfl) (by kernel_rfl) (fun _ _ _ h => h) (Or.inl ⟨by kernel_rfl, ?_⟩) ?_; rotate_left; (intro w hc; rw [hc]; clear hc; go_simp; try with_reducible rfl))
  (refine wpAnyC_take (i := 2) (v := ?_) hC rfl (by kernel_rfl) (by kernel_rfl) (by kernel_rfl) (fun _ _ _ h => h) (Or.inl ⟨by kernel_rfl, ?_⟩) ?_; rotate_left; (intro w hc; rw [hc]; clear hc; go_simp; try with_reducible rfl))
  (refine wpAnyC_take (i := 3) (v := ?_) hC rfl (by kernel_rfl) (by kernel_rfl) (by kernel_rfl) (fun _ _ _ h => h) (Or.inl ⟨by kernel_rfl, ?_⟩) ?_; rotate_left; (intro w hc; rw [hc]; clear hc; go_simp; try with_reducible rfl))
  go_simp
  (refine wpAnyC_take (i := 4) (v := ?_) hC rfl (by kernel_rfl) (by kernel_rfl) (by kernel_rfl) (fun _ _ _ h => h) (Or.inl ⟨by kernel_rfl, ?_⟩) ?_; rotate_left; (intro w hc; rw [hc]; clear hc; go_simp; try with_reducible rfl))
  go_simp
  (refine wpAnyC_take (i := 5) (v := ?_) hC rfl (by kernel_rfl) (by kernel_rfl) (by kernel_rfl) (fun _ _ _ h => h) (Or.inl ⟨by kernel_rfl, ?_⟩) ?_; rotate_left; (intro w hc; rw [hc]; clear hc; go_simp; try with_reducible rfl))
  go_simp
  (refine wpAnyC_take (i := 6) (v := ?_) hC rfl (by kernel_rfl) (by kernel_rfl) (by kernel_rfl) (fun _ _ _ h => h) (Or.inl ⟨by kernel_rfl, ?_⟩) ?_; rotate_left; (intro w hc; rw [hc]; clear hc; go_simp; try with_reducible rfl))
  go_simp
  (refine wpAnyC_take (i := 7) (v := ?_) hC rfl (by kernel_rfl) (by kernel_rfl) (by kernel_rfl) (fun _ _ _ h => h) (Or.inl ⟨by kernel_rfl, ?_⟩) ?_; rotate_left; (intro w hc; rw [hc]; clear hc; go_simp; try with_reducible rfl))
  go_simp
  (refine wpAnyC_take (i := 8) (v := ?_) hC rfl (by kernel_rfl) (by kernel_rfl) (by kernel_rfl) (fun _ _ _ h => h) (Or.inl ⟨by kernel_rfl, ?_⟩) ?_; rotate_left; (intro w hc; rw [hc]; clear hc; go_simp; try with_reducible rfl))
  go_simp
  refine wpAnyC_done (by kernel_rfl) ?_ _
  go_wp2
  go_ret
  refine ⟨?_, hb2⟩
  show Ending.returned (.bool (decide (0 < m))) = _
  rw [hdb.out]
theorem named_any (D BG M n : Nat) (f : Pf) (v0 v1 v3 : Value) (x : Bs) (b : Bool) (w : World) (hd : DbC w D v0 v1 (.map (some M)) v3) (hg : GrAt w BG M n f) (hn : n ≤ 1000000000) (hx : x.length ≤ maxLen) (hb : (0 < (f x 2).length) = (b = true)) :
    Calls Tryd.prog 20 #[.pointer (some ⟨D, 0, none⟩), sV x] w fun e w' => e = .returned (.bool b) ∧ Below w.heap.size w w' := by
  have kO := orEmpty_any D w
  have kH := has_any D BG M n f v0 v1 v3 x 2 b w hd hg hn hx (by decide) hb
  clear hd hg hb hx
  go_enter Tryd.func20, Tryd.ntmps20
  go_wp2_with fail
  refine kO.mono ?_
  rintro e w1 ⟨rfl, rfl⟩
  dsimp only
  clear kO
  go_wp2_with fail
  refine kH.mono ?_
  rintro e w2 ⟨rfl, hb⟩
  dsimp only
  clear kH
  go_wp2
  go_ret
  exact ⟨rfl, hb⟩
end Go.Proofs.YtkmedgdpcifnoaaDoor
