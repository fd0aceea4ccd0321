/- The law DbCancels: a pattern of one's own, and what counts behind it. -/
import Derived.Test.YtkmedgdpcifnoaaDoorAl
import Derived.Deep.QuietTactic
import Derived.Deep.Cut
import Derived.Deep.CutBlock
namespace Go.Proofs.YtkmedgdpcifnoaaDoor
open Go.RowKit Go.Shelf

/-- three are ready -/
theorem wpAnyC_three {P : Program} {md : Region.Mode} {ops : Array Oper} {Q : Exit → Act → World → Prop} {C : World → Prop} {i j k : Nat} {fuel : Nat} {listed : Array Bool} {a : Act} {w : World} (hr : Region.ready md ops listed = [i, j, k])
    (h1 : wpOp P ops Q i (fun a' w' => C w' ∧ wpAnyC P md ops C Q fuel (listed.setIfInBounds i true) a' w') a w) (h2 : wpOp P ops Q j (fun a' w' => C w' ∧ wpAnyC P md ops C Q fuel (listed.setIfInBounds j true) a' w') a w)
    (h3 : wpOp P ops Q k (fun a' w' => C w' ∧ wpAnyC P md ops C Q fuel (listed.setIfInBounds k true) a' w') a w) : wpAnyC P md ops C Q (fuel + 1) listed a w :=
  ⟨fun h0 => absurd (hr ▸ h0) (by simp), fun m hm => by
    rw [hr] at hm
    simp only [List.mem_cons, List.not_mem_nil, or_false] at hm
    rcases hm with rfl | rfl | rfl
    · exact h1
    · exact h2
    · exact h3⟩
theorem wpAnyC_two {P : Program} {md : Region.Mode} {ops : Array Oper} {Q : Exit → Act → World → Prop} {C : World → Prop} {i j : Nat} {fuel : Nat} {listed : Array Bool} {a : Act} {w : World} (hr : Region.ready md ops listed = [i, j])
    (h1 : wpOp P ops Q i (fun a' w' => C w' ∧ wpAnyC P md ops C Q fuel (listed.setIfInBounds i true) a' w') a w) (h2 : wpOp P ops Q j (fun a' w' => C w' ∧ wpAnyC P md ops C Q fuel (listed.setIfInBounds j true) a' w') a w) : wpAnyC P md ops C Q (fuel + 1) listed a w :=
  ⟨fun h0 => absurd (hr ▸ h0) (by simp), fun m hm => by
    rw [hr] at hm
    simp only [List.mem_cons, List.not_mem_nil, or_false] at hm
    rcases hm with rfl | rfl
    · exact h1
    · exact h2⟩
theorem cut3 {P : Program} {c : Code} {Q : Exit → Act → World → Prop} {a : Act} {w : World} (F : Nat → Nat → Nat → Act → Act) (Fa : Nat → Nat → Nat → World → Prop)
    (h1 : c.wp P (fun e a' w' => e = .normal ∧ ∃ α β γ, a' = F α β γ a ∧ Fa α β γ w') a w) (h2 : ∀ α β γ w', Fa α β γ w' → Q .normal (F α β γ a) w') : c.wp P Q a w :=
  wp_mono h1 fun e a' w' ⟨he, α, β, γ, ha, hf⟩ => by
    subst he
    subst ha
    exact h2 α β γ w' hf
def tsL : List Bs := [[37, 46, 111], [37], [37], [40, 37, 41]]
def psL : List Bs := [[37, 46, 99], [37, 46, 111], [37, 46, 99], [37]]
def wantP (n which : Nat) : Nat → List Nat
  | 0 => []
  | k + 1 => wantP n which k ++ (if k = which then [] else [n + k])
theorem wantP_len (n which : Nat) : ∀ k, (wantP n which k).length ≤ k
  | 0 => Nat.le_refl _
  | k + 1 => by
    have := wantP_len n which k
    unfold wantP
    rw [List.length_append]
    split <;> simp <;> omega
def l0B (m : Nat) (b : Bool) : List Nat := if b then [m] else []
theorem l0_len (m : Nat) (b : Bool) : (l0B m b).length ≤ 1 := by cases b <;> simp [l0B]
theorem app_want {W w0 : World} {B : Nat} {v : Value} {l : List Nat} (hO : W.ownsInts B 3 .i64 v (nI l)) (i : Nat) (hi : i ≤ 1000000000) (hl : l.length ≤ 1000000000) (hb : Below B w0 W) (hB0 : B ≤ w0.heap.size) :
    ∃ a m c w', (∀ ty : TypeId, (Builtin.append_ #[46, 46] ty #[v, .slice (some ⟨W.heap.size, 0, none⟩) 1 1]).run Tryd.prog (W.alloc (.cells #[.int .i64 i] 3)) = .ok (.slice a m c) w') ∧ w'.ownsInts B 3 .i64 (.slice a m c) (nI (l ++ [i])) ∧ Below B w0 w' := by
  have hB : B ≤ W.heap.size := Nat.le_trans hB0 hb.size
  obtain ⟨v', w', hr, ho, hg, _, a, m, c, rfl⟩ := app_int hO i hi hl hB
  exact ⟨a, m, c, w', hr, ho, hb.grown hg hB (fun k hk => own_low hO.1 k hk)⟩
def ruL (tt pp : Bs) (recipe : Bool) : Ru := ⟨[tt], [pp], [], false, true, false, [], [], recipe, [], false⟩
theorem ru_fit (which : Nat) (h : which ≤ 3) (recipe : Bool) : FitR 100000000 (ruL (tsL.getD which []) (psL.getD which []) recipe) := by
  refine fit_of ?_
  rcases (show which = 0 ∨ which = 1 ∨ which = 2 ∨ which = 3 by omega) with rfl | rfl | rfl | rfl <;> cases recipe <;> decide
set_option maxRecDepth 100000 in
theorem plain_1 (which : Nat) (h : which ≤ 3) (recipe : Bool) : impP ((allP false [ruL (tsL.getD which []) (psL.getD which []) recipe]).take 1) ((allP false [ruL (tsL.getD which []) (psL.getD which []) recipe]).drop 1) = (if recipe then [0] else []) ++ wantP 1 which 4 := by
  rcases (show which = 0 ∨ which = 1 ∨ which = 2 ∨ which = 3 by omega) with rfl | rfl | rfl | rfl <;> cases recipe <;> decide
set_option maxRecDepth 100000 in
theorem plain_2 (which : Nat) (h : which ≤ 3) (recipe : Bool) : impP ((allP false [ruL (tsL.getD which []) (psL.getD which []) recipe, ruL (tsL.getD which []) (psL.getD which []) recipe]).take 2) ((allP false [ruL (tsL.getD which []) (psL.getD which []) recipe, ruL (tsL.getD which []) (psL.getD which []) recipe]).drop 2) = (if recipe then [1] else []) ++ wantP 2 which 4 := by
  rcases (show which = 0 ∨ which = 1 ∨ which = 2 ∨ which = 3 by omega) with rfl | rfl | rfl | rfl <;> cases recipe <;> decide
def B28 (w : World) (b : Nat) (v : Value) : Prop := w.heap[b]? = some (.cells #[v, .slice none 0 0, .slice none 0 0, .slice none 0 0, .slice none 0 0, .string ⟨#[]⟩, .slice none 0 0] 28 (0, 0))
section
variable {w : World} {b : Nat} {v : Value}
theorem B28.c0 (x : B28 w b v) : w.cell? ⟨b, 0, none⟩ = some v := by unfold B28 at x; rw [Lib.cell_of_heap x]; rfl
theorem B28.c1 (x : B28 w b v) : w.cell? ⟨b, 1, none⟩ = some (.slice none 0 0) := by unfold B28 at x; rw [Lib.cell_of_heap x]; rfl
theorem B28.c2 (x : B28 w b v) : w.cell? ⟨b, 2, none⟩ = some (.slice none 0 0) := by unfold B28 at x; rw [Lib.cell_of_heap x]; rfl
theorem B28.c3 (x : B28 w b v) : w.cell? ⟨b, 3, none⟩ = some (.slice none 0 0) := by unfold B28 at x; rw [Lib.cell_of_heap x]; rfl
theorem B28.c4 (x : B28 w b v) : w.cell? ⟨b, 4, none⟩ = some (.slice none 0 0) := by unfold B28 at x; rw [Lib.cell_of_heap x]; rfl
theorem B28.c5 (x : B28 w b v) : w.cell? ⟨b, 5, none⟩ = some (.string ⟨#[]⟩) := by unfold B28 at x; rw [Lib.cell_of_heap x]; rfl
theorem B28.c6 (x : B28 w b v) : w.cell? ⟨b, 6, none⟩ = some (.slice none 0 0) := by unfold B28 at x; rw [Lib.cell_of_heap x]; rfl
theorem B28.fz (x : B28 w b v) (j : Nat) : w.frozen? ⟨b, j, none⟩ = false := Lib.frozen_of_heap x j
theorem B28.lt (x : B28 w b v) : b < w.heap.size := lt_of_block x
theorem B28.below {w' : World} (x : B28 w b v) (hb : Below w.heap.size w w') : B28 w' b v := (hb.block b x.lt).trans x
end
theorem four_row (W : World) (n : Nat) (hn : W.heap.size = n) (x0 x1 x2 x3 : Bs) (k : Nat) (hk : k < 4) : (W.alloc (.cells #[sV x0, sV x1, sV x2, sV x3] 9)).cell? ⟨n, k, none⟩ = some (sV ([x0, x1, x2, x3].getD k [])) := by
  subst hn
  rw [Lib.cell_of_heap (heap_alloc_new W _)]
  rcases (show k = 0 ∨ k = 1 ∨ k = 2 ∨ k = 3 by omega) with rfl | rfl | rfl | rfl <;> rfl
set_option maxRecDepth 100000 in
set_option maxHeartbeats 8000000 in
theorem cancels_in (which : Nat) (hwh : which ≤ 3) (recipe twice : Bool) (w : World) (hg : Glo w) :
    Calls Tryd.prog 5 #[.int .i64 which, .bool recipe, .bool twice] w fun e w' => e = .returned (.bool true) ∧ Below w.heap.size w w' := by
  have kA := alive_any w hg
  have d0 : ¬ (which : Int) < 0 := by omega
  have d1 : ¬ (3 : Int) < (which : Int) := by omega
  have d2 : (which : Int) < 4 := by omega
  have d3 : which < 4 := by omega
  have HG := hide' hg
  clear hg
  go_enter Tryd.func5, Tryd.ntmps5
  go_wp2_with fail
  refine kA.mono ?_
  rintro e w1 ⟨rfl, hb1⟩
  dsimp only
  clear kA
  go_upto_region 6 with fail
  have hr0 := four_row w1 w1.heap.size rfl [37, 46, 111] [37] [37] [40, 37, 41] which (by omega)
  have hr1 := four_row (w1.alloc (.cells #[sV [37, 46, 111], sV [37], sV [37], sV [40, 37, 41]] 9)) (w1.heap.size + 1) (World.size_alloc _ _) [37, 46, 99] [37, 46, 111] [37, 46, 99] [37] which (by omega)
  have hba : Below w1.heap.size w1 (w1.alloc (.cells #[sV [37, 46, 111], sV [37], sV [37], sV [40, 37, 41]] 9)) := below_alloc (Below.refl _ w1) (Nat.le_refl _) _
  have hbb : Below (w1.alloc (.cells #[sV [37, 46, 111], sV [37], sV [37], sV [40, 37, 41]] 9)).heap.size (w1.alloc (.cells #[sV [37, 46, 111], sV [37], sV [37], sV [40, 37, 41]] 9)) ((w1.alloc (.cells #[sV [37, 46, 111], sV [37], sV [37], sV [40, 37, 41]] 9)).alloc (.cells #[sV [37, 46, 99], sV [37, 46, 111], sV [37, 46, 99], sV [37]] 9)) := below_alloc (Below.refl _ _) (Nat.le_refl _) _
  have hr0 := (hbb.cell (p := ⟨w1.heap.size, which, none⟩) (by rw [World.size_alloc]; exact Nat.lt_succ_self _)).trans hr0
  have hB2 := hb1.trans ((hba.trans (hbb.mono hba.size)).mono hb1.size)
  change Code.wp Tryd.prog _ _ _ ((w1.alloc (.cells #[sV [37, 46, 111], sV [37], sV [37], sV [40, 37, 41]] 9)).alloc (.cells #[sV [37, 46, 99], sV [37, 46, 111], sV [37, 46, 99], sV [37]] 9))
  clear hba hbb
  generalize (w1.alloc (.cells #[sV [37, 46, 111], sV [37], sV [37], sV [40, 37, 41]] 9)).alloc (.cells #[sV [37, 46, 99], sV [37, 46, 111], sV [37, 46, 99], sV [37]] 9) = w2 at hr0 hr1 hB2 ⊢
  generalize w1.heap.size = s1 at hr0 hr1 ⊢
  have hr0 : w2.cell? ⟨s1, which, none⟩ = some (.string (mk (tsL.getD which []))) := hr0
  have hr1 : w2.cell? ⟨s1 + 1, which, none⟩ = some (.string (mk (psL.getD which []))) := hr1
  have hl2 : s1 < w2.heap.size ∧ s1 + 1 < w2.heap.size := ⟨World.block_lt_of_cell? _ _ hr0, World.block_lt_of_cell? _ _ hr1⟩
  obtain ⟨tt, htt⟩ : ∃ tt, tt = tsL.getD which [] := ⟨_, rfl⟩
  obtain ⟨pp, hpp⟩ : ∃ pp, pp = psL.getD which [] := ⟨_, rfl⟩
  rw [← htt] at hr0
  rw [← hpp] at hr1
  obtain ⟨st, hst⟩ : ∃ st, st = mk tt := ⟨_, rfl⟩
  obtain ⟨sp, hsp⟩ : ∃ sp, sp = mk pp := ⟨_, rfl⟩
  rw [← hst] at hr0
  rw [← hsp] at hr1
  have HTP := hide' (And.intro htt hpp)
  have HST := hide' hst
  have HSP := hide' hsp
  clear hb1 htt hpp hst hsp
  refine cut3 (fun α β γ a => (((((((((((((a.put (some 30) (.slice (some ⟨s1, 0, none⟩) 4 4)).put (some 31) (.int .i64 which)).put (some 32) (.pointer (some ⟨s1, which, none⟩))).put (some 33) (.string st)).put (some 34) (.slice (some ⟨α, 0, none⟩) 1 1)).put (some 35) (.slice (some ⟨s1 + 1, 0, none⟩) 4 4)).put (some 36) (.int .i64 which)).put (some 37) (.pointer (some ⟨s1 + 1, which, none⟩))).put (some 38) (.string sp)).put (some 39) (.slice (some ⟨β, 0, none⟩) 1 1)).put (some 40) (.bool recipe)).put (some 41) (.agg #[.slice (some ⟨α, 0, none⟩) 1 1, .slice (some ⟨β, 0, none⟩) 1 1, .slice none 0 0, .bool false, .bool true, .bool false, .string ⟨#[]⟩, .slice none 0 0, .bool recipe, .string ⟨#[]⟩, .bool false])).put (some 10) (.pointer (some ⟨γ, 0, none⟩)))) (fun α β γ W => OwnS W w.heap.size (.slice (some ⟨α, 0, none⟩) 1 1) [tt] ∧ OwnS W w.heap.size (.slice (some ⟨β, 0, none⟩) 1 1) [pp] ∧ Bx11 W γ (.slice (some ⟨α, 0, none⟩) 1 1) (.slice (some ⟨β, 0, none⟩) 1 1) (.slice none 0 0) (.bool false) (.bool true) (.bool false) (.string ⟨#[]⟩) (.slice none 0 0) (.bool recipe) (.string ⟨#[]⟩) (.bool false) ∧ Below w.heap.size w W) ?_ ?_
  · refine wp_region_class (C := fun W => W.cell? ⟨s1, which, none⟩ = some (.string st) ∧ W.cell? ⟨s1 + 1, which, none⟩ = some (.string sp)) (by kernel_rfl) ?_
    have hC : w2.drew.cell? ⟨s1, which, none⟩ = some (.string st) ∧ w2.drew.cell? ⟨s1 + 1, which, none⟩ = some (.string sp) := ⟨hr0, hr1⟩
    have hl : s1 < w2.drew.heap.size ∧ s1 + 1 < w2.drew.heap.size := hl2
    have hB := hB2.drew
    clear hr0 hr1 hl2 hB2
    generalize w2.drew = w3 at hC hl hB ⊢
    (refine wpAnyC_take (i := 0) (v := ?_) hC rfl (by kernel_rfl) (by kernel_rfl) (by kernel_rfl) (fun _ _ _ h => (by cases h.1)) (Or.inl ⟨by kernel_rfl, ?_⟩) ?_; rotate_left; (intro w hc;  clear hc; go_simp; try with_reducible rfl))
    (refine wpAnyC_take (i := 1) (v := ?_) hC rfl (by kernel_rfl) (by kernel_rfl) (by kernel_rfl) (fun _ _ _ h => (by cases h.1)) (Or.inl ⟨by kernel_rfl, ?_⟩) ?_; rotate_left; (intro w hc;  clear hc; go_simp; try with_reducible rfl))
    (refine wpAnyC_take (i := 2) (v := ?_) hC rfl (by kernel_rfl) (by kernel_rfl) (by kernel_rfl) (fun _ _ _ h => (by cases h.1)) (Or.inl ⟨by kernel_rfl, ?_⟩) ?_; rotate_left; (intro w hc;  clear hc; go_simp; try with_reducible rfl))
    (refine wpAnyC_take (i := 3) (v := ?_) hC rfl (by kernel_rfl) (by kernel_rfl) (by kernel_rfl) (fun _ _ _ h => (by cases h.1)) (Or.inl ⟨by kernel_rfl, ?_⟩) ?_; rotate_left; (intro w hc; have k0 := hc.1; clear hc; go_simp; try with_reducible rfl))
    (refine wpAnyC_take (i := 5) (v := ?_) hC rfl (by kernel_rfl) (by kernel_rfl) (by kernel_rfl) (fun _ _ _ h => (by cases h.1)) (Or.inl ⟨by kernel_rfl, ?_⟩) ?_; rotate_left; (intro w hc;  clear hc; go_simp; try with_reducible rfl))
    (refine wpAnyC_take (i := 6) (v := ?_) hC rfl (by kernel_rfl) (by kernel_rfl) (by kernel_rfl) (fun _ _ _ h => (by cases h.1)) (Or.inl ⟨by kernel_rfl, ?_⟩) ?_; rotate_left; (intro w hc;  clear hc; go_simp; try with_reducible rfl))
    (refine wpAnyC_take (i := 7) (v := ?_) hC rfl (by kernel_rfl) (by kernel_rfl) (by kernel_rfl) (fun _ _ _ h => (by cases h.1)) (Or.inl ⟨by kernel_rfl, ?_⟩) ?_; rotate_left; (intro w hc;  clear hc; go_simp; try with_reducible rfl))
    (refine wpAnyC_take (i := 8) (v := ?_) hC rfl (by kernel_rfl) (by kernel_rfl) (by kernel_rfl) (fun _ _ _ h => (by cases h.1)) (Or.inl ⟨by kernel_rfl, ?_⟩) ?_; rotate_left; (intro w hc; have k0 := hc.2; clear hc; go_simp; try with_reducible rfl))
    (refine wpAnyC_take (i := 10) (v := ?_) hC rfl (by kernel_rfl) (by kernel_rfl) (by kernel_rfl) (fun _ _ _ h => (by cases h.1)) (Or.inl ⟨by kernel_rfl, ?_⟩) ?_; rotate_left; (intro w hc;  clear hc; go_simp; try with_reducible rfl))
    go_simp
    refine wpAnyC_three (i := 4) (j := 9) (k := 12) (by kernel_rfl) (wpOp_wanted rfl (by rfl) ?_) (wpOp_wanted rfl (by rfl) ?_) (wpOp_wanted rfl (by rfl) ?_)
    · go_simp
      have bb : Below w3.heap.size w3 (w3.alloc (.cells #[.string st] 9)) := below_alloc (Below.refl _ w3) (Nat.le_refl _) _
      have f4 := one_row w3 w.heap.size tt st hB.size HST.out
      replace hC : (w3.alloc (.cells #[.string st] 9)).cell? ⟨s1, which, none⟩ = some (.string st) ∧ (w3.alloc (.cells #[.string st] 9)).cell? ⟨s1 + 1, which, none⟩ = some (.string sp) := ⟨(bb.cell (p := ⟨s1, which, none⟩) hl.1).trans hC.1, (bb.cell (p := ⟨s1 + 1, which, none⟩) hl.2).trans hC.2⟩
      replace hl : s1 < (w3.alloc (.cells #[.string st] 9)).heap.size ∧ s1 + 1 < (w3.alloc (.cells #[.string st] 9)).heap.size := ⟨Nat.lt_of_lt_of_le hl.1 bb.size, Nat.lt_of_lt_of_le hl.2 bb.size⟩
      replace hB := hB.trans (bb.mono hB.size)
      clear bb
      generalize (w3.alloc (.cells #[.string st] 9)) = w4 at hC hl hB f4 ⊢
      generalize w3.heap.size = α at f4 ⊢
      first | (refine And.intro (a := _ ∧ _) hC ?_) | skip
      refine wpAnyC_two (i := 9) (j := 12) (by kernel_rfl) (wpOp_wanted rfl (by rfl) ?_) (wpOp_wanted rfl (by rfl) ?_)
      · go_simp
        have bb : Below w4.heap.size w4 (w4.alloc (.cells #[.string sp] 9)) := below_alloc (Below.refl _ w4) (Nat.le_refl _) _
        have f9 := one_row w4 w.heap.size pp sp hB.size HSP.out
        replace f4 := own_below f4 bb
        replace hC : (w4.alloc (.cells #[.string sp] 9)).cell? ⟨s1, which, none⟩ = some (.string st) ∧ (w4.alloc (.cells #[.string sp] 9)).cell? ⟨s1 + 1, which, none⟩ = some (.string sp) := ⟨(bb.cell (p := ⟨s1, which, none⟩) hl.1).trans hC.1, (bb.cell (p := ⟨s1 + 1, which, none⟩) hl.2).trans hC.2⟩
        replace hl : s1 < (w4.alloc (.cells #[.string sp] 9)).heap.size ∧ s1 + 1 < (w4.alloc (.cells #[.string sp] 9)).heap.size := ⟨Nat.lt_of_lt_of_le hl.1 bb.size, Nat.lt_of_lt_of_le hl.2 bb.size⟩
        replace hB := hB.trans (bb.mono hB.size)
        clear bb
        generalize (w4.alloc (.cells #[.string sp] 9)) = w5 at hC hl hB f4 f9 ⊢
        generalize w4.heap.size = β at f9 ⊢
        first | (refine And.intro (a := _ ∧ _) hC ?_) | skip
        (refine wpAnyC_take (i := 11) (v := ?_) hC rfl (by kernel_rfl) (by kernel_rfl) (by kernel_rfl) (fun _ _ _ h => (by cases h.1)) (Or.inl ⟨by kernel_rfl, ?_⟩) ?_; rotate_left; (intro w hc; clear hc; go_simp; try with_reducible rfl))
        go_simp
        refine wpAnyC_one (i := 12) (by kernel_rfl) (wpOp_wanted rfl (by rfl) ?_)
        go_simp
        have bb : Below w5.heap.size w5 (w5.alloc (.cells #[.slice none 0 0, .slice none 0 0, .slice none 0 0, .bool false, .bool false, .bool false, .string ⟨#[]⟩, .slice none 0 0, .bool false, .string ⟨#[]⟩, .bool false] 43)) := below_alloc (Below.refl _ w5) (Nat.le_refl _) _
        have f12 := bx11_at w5 (.slice none 0 0) (.slice none 0 0) (.slice none 0 0) (.bool false) (.bool false) (.bool false) (.string ⟨#[]⟩) (.slice none 0 0) (.bool false) (.string ⟨#[]⟩) (.bool false)
        have hγ : w.heap.size ≤ w5.heap.size := hB.size
        have hs : s1 < w5.heap.size ∧ s1 + 1 < w5.heap.size := hl
        replace f4 := own_below f4 bb
        replace f9 := own_below f9 bb
        replace hC : (w5.alloc (.cells #[.slice none 0 0, .slice none 0 0, .slice none 0 0, .bool false, .bool false, .bool false, .string ⟨#[]⟩, .slice none 0 0, .bool false, .string ⟨#[]⟩, .bool false] 43)).cell? ⟨s1, which, none⟩ = some (.string st) ∧ (w5.alloc (.cells #[.slice none 0 0, .slice none 0 0, .slice none 0 0, .bool false, .bool false, .bool false, .string ⟨#[]⟩, .slice none 0 0, .bool false, .string ⟨#[]⟩, .bool false] 43)).cell? ⟨s1 + 1, which, none⟩ = some (.string sp) := ⟨(bb.cell (p := ⟨s1, which, none⟩) hl.1).trans hC.1, (bb.cell (p := ⟨s1 + 1, which, none⟩) hl.2).trans hC.2⟩
        replace hl : s1 < (w5.alloc (.cells #[.slice none 0 0, .slice none 0 0, .slice none 0 0, .bool false, .bool false, .bool false, .string ⟨#[]⟩, .slice none 0 0, .bool false, .string ⟨#[]⟩, .bool false] 43)).heap.size ∧ s1 + 1 < (w5.alloc (.cells #[.slice none 0 0, .slice none 0 0, .slice none 0 0, .bool false, .bool false, .bool false, .string ⟨#[]⟩, .slice none 0 0, .bool false, .string ⟨#[]⟩, .bool false] 43)).heap.size := ⟨Nat.lt_of_lt_of_le hl.1 bb.size, Nat.lt_of_lt_of_le hl.2 bb.size⟩
        replace hB := hB.trans (bb.mono hB.size)
        clear bb
        generalize (w5.alloc (.cells #[.slice none 0 0, .slice none 0 0, .slice none 0 0, .bool false, .bool false, .bool false, .string ⟨#[]⟩, .slice none 0 0, .bool false, .string ⟨#[]⟩, .bool false] 43)) = w6 at hC hl hB f4 f9 f12 ⊢
        generalize w5.heap.size = γ at f12 hγ hs ⊢
        first | (refine And.intro (a := _ ∧ _) hC ?_) | skip
        have y0 := f12.c0
        have z0 := f12.fz 0
        have y1 := f12.c1
        have z1 := f12.fz 1
        have y2 := f12.c2
        have z2 := f12.fz 2
        have y3 := f12.c3
        have z3 := f12.fz 3
        have y4 := f12.c4
        have z4 := f12.fz 4
        have y5 := f12.c5
        have z5 := f12.fz 5
        have y6 := f12.c6
        have z6 := f12.fz 6
        have y7 := f12.c7
        have z7 := f12.fz 7
        have y8 := f12.c8
        have z8 := f12.fz 8
        have y9 := f12.c9
        have z9 := f12.fz 9
        have y10 := f12.c10
        have z10 := f12.fz 10
        refine wpAnyC_one (i := 13) (by kernel_rfl) (wpOp_wanted rfl (by rfl) ?_)
        go_simp
        refine wpAnyC_done (by kernel_rfl) ?_ _
        exact ⟨rfl, α, β, γ, by kernel_rfl, own_put11 f4 f12 (by decide) (.slice (some ⟨α, 0, none⟩) 1 1) (.slice (some ⟨β, 0, none⟩) 1 1) (.slice none 0 0) (.bool false) (.bool true) (.bool false) (.string ⟨#[]⟩) (.slice none 0 0) (.bool recipe) (.string ⟨#[]⟩) (.bool false), own_put11 f9 f12 (by decide) (.slice (some ⟨α, 0, none⟩) 1 1) (.slice (some ⟨β, 0, none⟩) 1 1) (.slice none 0 0) (.bool false) (.bool true) (.bool false) (.string ⟨#[]⟩) (.slice none 0 0) (.bool recipe) (.string ⟨#[]⟩) (.bool false), f12.set, put11_below hB hγ (.slice (some ⟨α, 0, none⟩) 1 1) (.slice (some ⟨β, 0, none⟩) 1 1) (.slice none 0 0) (.bool false) (.bool true) (.bool false) (.string ⟨#[]⟩) (.slice none 0 0) (.bool recipe) (.string ⟨#[]⟩) (.bool false)⟩
      · go_simp
        have bb : Below w4.heap.size w4 (w4.alloc (.cells #[.slice none 0 0, .slice none 0 0, .slice none 0 0, .bool false, .bool false, .bool false, .string ⟨#[]⟩, .slice none 0 0, .bool false, .string ⟨#[]⟩, .bool false] 43)) := below_alloc (Below.refl _ w4) (Nat.le_refl _) _
        have f12 := bx11_at w4 (.slice none 0 0) (.slice none 0 0) (.slice none 0 0) (.bool false) (.bool false) (.bool false) (.string ⟨#[]⟩) (.slice none 0 0) (.bool false) (.string ⟨#[]⟩) (.bool false)
        have hγ : w.heap.size ≤ w4.heap.size := hB.size
        have hs : s1 < w4.heap.size ∧ s1 + 1 < w4.heap.size := hl
        replace f4 := own_below f4 bb
        replace hC : (w4.alloc (.cells #[.slice none 0 0, .slice none 0 0, .slice none 0 0, .bool false, .bool false, .bool false, .string ⟨#[]⟩, .slice none 0 0, .bool false, .string ⟨#[]⟩, .bool false] 43)).cell? ⟨s1, which, none⟩ = some (.string st) ∧ (w4.alloc (.cells #[.slice none 0 0, .slice none 0 0, .slice none 0 0, .bool false, .bool false, .bool false, .string ⟨#[]⟩, .slice none 0 0, .bool false, .string ⟨#[]⟩, .bool false] 43)).cell? ⟨s1 + 1, which, none⟩ = some (.string sp) := ⟨(bb.cell (p := ⟨s1, which, none⟩) hl.1).trans hC.1, (bb.cell (p := ⟨s1 + 1, which, none⟩) hl.2).trans hC.2⟩
        replace hl : s1 < (w4.alloc (.cells #[.slice none 0 0, .slice none 0 0, .slice none 0 0, .bool false, .bool false, .bool false, .string ⟨#[]⟩, .slice none 0 0, .bool false, .string ⟨#[]⟩, .bool false] 43)).heap.size ∧ s1 + 1 < (w4.alloc (.cells #[.slice none 0 0, .slice none 0 0, .slice none 0 0, .bool false, .bool false, .bool false, .string ⟨#[]⟩, .slice none 0 0, .bool false, .string ⟨#[]⟩, .bool false] 43)).heap.size := ⟨Nat.lt_of_lt_of_le hl.1 bb.size, Nat.lt_of_lt_of_le hl.2 bb.size⟩
        replace hB := hB.trans (bb.mono hB.size)
        clear bb
        generalize (w4.alloc (.cells #[.slice none 0 0, .slice none 0 0, .slice none 0 0, .bool false, .bool false, .bool false, .string ⟨#[]⟩, .slice none 0 0, .bool false, .string ⟨#[]⟩, .bool false] 43)) = w5 at hC hl hB f4 f12 ⊢
        generalize w4.heap.size = γ at f12 hγ hs ⊢
        first | (refine And.intro (a := _ ∧ _) hC ?_) | skip
        refine wpAnyC_one (i := 9) (by kernel_rfl) (wpOp_wanted rfl (by rfl) ?_)
        go_simp
        have bb : Below w5.heap.size w5 (w5.alloc (.cells #[.string sp] 9)) := below_alloc (Below.refl _ w5) (Nat.le_refl _) _
        have f9 := one_row w5 w.heap.size pp sp hB.size HSP.out
        replace f4 := own_below f4 bb
        replace f12 := f12.below bb
        replace hC : (w5.alloc (.cells #[.string sp] 9)).cell? ⟨s1, which, none⟩ = some (.string st) ∧ (w5.alloc (.cells #[.string sp] 9)).cell? ⟨s1 + 1, which, none⟩ = some (.string sp) := ⟨(bb.cell (p := ⟨s1, which, none⟩) hl.1).trans hC.1, (bb.cell (p := ⟨s1 + 1, which, none⟩) hl.2).trans hC.2⟩
        replace hl : s1 < (w5.alloc (.cells #[.string sp] 9)).heap.size ∧ s1 + 1 < (w5.alloc (.cells #[.string sp] 9)).heap.size := ⟨Nat.lt_of_lt_of_le hl.1 bb.size, Nat.lt_of_lt_of_le hl.2 bb.size⟩
        replace hB := hB.trans (bb.mono hB.size)
        clear bb
        generalize (w5.alloc (.cells #[.string sp] 9)) = w6 at hC hl hB f4 f12 f9 ⊢
        generalize w5.heap.size = β at f9 ⊢
        first | (refine And.intro (a := _ ∧ _) hC ?_) | skip
        (refine wpAnyC_take (i := 11) (v := ?_) hC rfl (by kernel_rfl) (by kernel_rfl) (by kernel_rfl) (fun _ _ _ h => (by cases h.1)) (Or.inl ⟨by kernel_rfl, ?_⟩) ?_; rotate_left; (intro w hc; clear hc; go_simp; try with_reducible rfl))
        go_simp
        have y0 := f12.c0
        have z0 := f12.fz 0
        have y1 := f12.c1
        have z1 := f12.fz 1
        have y2 := f12.c2
        have z2 := f12.fz 2
        have y3 := f12.c3
        have z3 := f12.fz 3
        have y4 := f12.c4
        have z4 := f12.fz 4
        have y5 := f12.c5
        have z5 := f12.fz 5
        have y6 := f12.c6
        have z6 := f12.fz 6
        have y7 := f12.c7
        have z7 := f12.fz 7
        have y8 := f12.c8
        have z8 := f12.fz 8
        have y9 := f12.c9
        have z9 := f12.fz 9
        have y10 := f12.c10
        have z10 := f12.fz 10
        refine wpAnyC_one (i := 13) (by kernel_rfl) (wpOp_wanted rfl (by rfl) ?_)
        go_simp
        refine wpAnyC_done (by kernel_rfl) ?_ _
        exact ⟨rfl, α, β, γ, by kernel_rfl, own_put11 f4 f12 (by decide) (.slice (some ⟨α, 0, none⟩) 1 1) (.slice (some ⟨β, 0, none⟩) 1 1) (.slice none 0 0) (.bool false) (.bool true) (.bool false) (.string ⟨#[]⟩) (.slice none 0 0) (.bool recipe) (.string ⟨#[]⟩) (.bool false), own_put11 f9 f12 (by decide) (.slice (some ⟨α, 0, none⟩) 1 1) (.slice (some ⟨β, 0, none⟩) 1 1) (.slice none 0 0) (.bool false) (.bool true) (.bool false) (.string ⟨#[]⟩) (.slice none 0 0) (.bool recipe) (.string ⟨#[]⟩) (.bool false), f12.set, put11_below hB hγ (.slice (some ⟨α, 0, none⟩) 1 1) (.slice (some ⟨β, 0, none⟩) 1 1) (.slice none 0 0) (.bool false) (.bool true) (.bool false) (.string ⟨#[]⟩) (.slice none 0 0) (.bool recipe) (.string ⟨#[]⟩) (.bool false)⟩
    · go_simp
      have bb : Below w3.heap.size w3 (w3.alloc (.cells #[.string sp] 9)) := below_alloc (Below.refl _ w3) (Nat.le_refl _) _
      have f9 := one_row w3 w.heap.size pp sp hB.size HSP.out
      replace hC : (w3.alloc (.cells #[.string sp] 9)).cell? ⟨s1, which, none⟩ = some (.string st) ∧ (w3.alloc (.cells #[.string sp] 9)).cell? ⟨s1 + 1, which, none⟩ = some (.string sp) := ⟨(bb.cell (p := ⟨s1, which, none⟩) hl.1).trans hC.1, (bb.cell (p := ⟨s1 + 1, which, none⟩) hl.2).trans hC.2⟩
      replace hl : s1 < (w3.alloc (.cells #[.string sp] 9)).heap.size ∧ s1 + 1 < (w3.alloc (.cells #[.string sp] 9)).heap.size := ⟨Nat.lt_of_lt_of_le hl.1 bb.size, Nat.lt_of_lt_of_le hl.2 bb.size⟩
      replace hB := hB.trans (bb.mono hB.size)
      clear bb
      generalize (w3.alloc (.cells #[.string sp] 9)) = w4 at hC hl hB f9 ⊢
      generalize w3.heap.size = β at f9 ⊢
      first | (refine And.intro (a := _ ∧ _) hC ?_) | skip
      refine wpAnyC_two (i := 4) (j := 12) (by kernel_rfl) (wpOp_wanted rfl (by rfl) ?_) (wpOp_wanted rfl (by rfl) ?_)
      · go_simp
        have bb : Below w4.heap.size w4 (w4.alloc (.cells #[.string st] 9)) := below_alloc (Below.refl _ w4) (Nat.le_refl _) _
        have f4 := one_row w4 w.heap.size tt st hB.size HST.out
        replace f9 := own_below f9 bb
        replace hC : (w4.alloc (.cells #[.string st] 9)).cell? ⟨s1, which, none⟩ = some (.string st) ∧ (w4.alloc (.cells #[.string st] 9)).cell? ⟨s1 + 1, which, none⟩ = some (.string sp) := ⟨(bb.cell (p := ⟨s1, which, none⟩) hl.1).trans hC.1, (bb.cell (p := ⟨s1 + 1, which, none⟩) hl.2).trans hC.2⟩
        replace hl : s1 < (w4.alloc (.cells #[.string st] 9)).heap.size ∧ s1 + 1 < (w4.alloc (.cells #[.string st] 9)).heap.size := ⟨Nat.lt_of_lt_of_le hl.1 bb.size, Nat.lt_of_lt_of_le hl.2 bb.size⟩
        replace hB := hB.trans (bb.mono hB.size)
        clear bb
        generalize (w4.alloc (.cells #[.string st] 9)) = w5 at hC hl hB f9 f4 ⊢
        generalize w4.heap.size = α at f4 ⊢
        first | (refine And.intro (a := _ ∧ _) hC ?_) | skip
        (refine wpAnyC_take (i := 11) (v := ?_) hC rfl (by kernel_rfl) (by kernel_rfl) (by kernel_rfl) (fun _ _ _ h => (by cases h.1)) (Or.inl ⟨by kernel_rfl, ?_⟩) ?_; rotate_left; (intro w hc; clear hc; go_simp; try with_reducible rfl))
        go_simp
        refine wpAnyC_one (i := 12) (by kernel_rfl) (wpOp_wanted rfl (by rfl) ?_)
        go_simp
        have bb : Below w5.heap.size w5 (w5.alloc (.cells #[.slice none 0 0, .slice none 0 0, .slice none 0 0, .bool false, .bool false, .bool false, .string ⟨#[]⟩, .slice none 0 0, .bool false, .string ⟨#[]⟩, .bool false] 43)) := below_alloc (Below.refl _ w5) (Nat.le_refl _) _
        have f12 := bx11_at w5 (.slice none 0 0) (.slice none 0 0) (.slice none 0 0) (.bool false) (.bool false) (.bool false) (.string ⟨#[]⟩) (.slice none 0 0) (.bool false) (.string ⟨#[]⟩) (.bool false)
        have hγ : w.heap.size ≤ w5.heap.size := hB.size
        have hs : s1 < w5.heap.size ∧ s1 + 1 < w5.heap.size := hl
        replace f9 := own_below f9 bb
        replace f4 := own_below f4 bb
        replace hC : (w5.alloc (.cells #[.slice none 0 0, .slice none 0 0, .slice none 0 0, .bool false, .bool false, .bool false, .string ⟨#[]⟩, .slice none 0 0, .bool false, .string ⟨#[]⟩, .bool false] 43)).cell? ⟨s1, which, none⟩ = some (.string st) ∧ (w5.alloc (.cells #[.slice none 0 0, .slice none 0 0, .slice none 0 0, .bool false, .bool false, .bool false, .string ⟨#[]⟩, .slice none 0 0, .bool false, .string ⟨#[]⟩, .bool false] 43)).cell? ⟨s1 + 1, which, none⟩ = some (.string sp) := ⟨(bb.cell (p := ⟨s1, which, none⟩) hl.1).trans hC.1, (bb.cell (p := ⟨s1 + 1, which, none⟩) hl.2).trans hC.2⟩
        replace hl : s1 < (w5.alloc (.cells #[.slice none 0 0, .slice none 0 0, .slice none 0 0, .bool false, .bool false, .bool false, .string ⟨#[]⟩, .slice none 0 0, .bool false, .string ⟨#[]⟩, .bool false] 43)).heap.size ∧ s1 + 1 < (w5.alloc (.cells #[.slice none 0 0, .slice none 0 0, .slice none 0 0, .bool false, .bool false, .bool false, .string ⟨#[]⟩, .slice none 0 0, .bool false, .string ⟨#[]⟩, .bool false] 43)).heap.size := ⟨Nat.lt_of_lt_of_le hl.1 bb.size, Nat.lt_of_lt_of_le hl.2 bb.size⟩
        replace hB := hB.trans (bb.mono hB.size)
        clear bb
        generalize (w5.alloc (.cells #[.slice none 0 0, .slice none 0 0, .slice none 0 0, .bool false, .bool false, .bool false, .string ⟨#[]⟩, .slice none 0 0, .bool false, .string ⟨#[]⟩, .bool false] 43)) = w6 at hC hl hB f9 f4 f12 ⊢
        generalize w5.heap.size = γ at f12 hγ hs ⊢
        first | (refine And.intro (a := _ ∧ _) hC ?_) | skip
        have y0 := f12.c0
        have z0 := f12.fz 0
        have y1 := f12.c1
        have z1 := f12.fz 1
        have y2 := f12.c2
        have z2 := f12.fz 2
        have y3 := f12.c3
        have z3 := f12.fz 3
        have y4 := f12.c4
        have z4 := f12.fz 4
        have y5 := f12.c5
        have z5 := f12.fz 5
        have y6 := f12.c6
        have z6 := f12.fz 6
        have y7 := f12.c7
        have z7 := f12.fz 7
        have y8 := f12.c8
        have z8 := f12.fz 8
        have y9 := f12.c9
        have z9 := f12.fz 9
        have y10 := f12.c10
        have z10 := f12.fz 10
        refine wpAnyC_one (i := 13) (by kernel_rfl) (wpOp_wanted rfl (by rfl) ?_)
        go_simp
        refine wpAnyC_done (by kernel_rfl) ?_ _
        exact ⟨rfl, α, β, γ, by kernel_rfl, own_put11 f4 f12 (by decide) (.slice (some ⟨α, 0, none⟩) 1 1) (.slice (some ⟨β, 0, none⟩) 1 1) (.slice none 0 0) (.bool false) (.bool true) (.bool false) (.string ⟨#[]⟩) (.slice none 0 0) (.bool recipe) (.string ⟨#[]⟩) (.bool false), own_put11 f9 f12 (by decide) (.slice (some ⟨α, 0, none⟩) 1 1) (.slice (some ⟨β, 0, none⟩) 1 1) (.slice none 0 0) (.bool false) (.bool true) (.bool false) (.string ⟨#[]⟩) (.slice none 0 0) (.bool recipe) (.string ⟨#[]⟩) (.bool false), f12.set, put11_below hB hγ (.slice (some ⟨α, 0, none⟩) 1 1) (.slice (some ⟨β, 0, none⟩) 1 1) (.slice none 0 0) (.bool false) (.bool true) (.bool false) (.string ⟨#[]⟩) (.slice none 0 0) (.bool recipe) (.string ⟨#[]⟩) (.bool false)⟩
      · go_simp
        have bb : Below w4.heap.size w4 (w4.alloc (.cells #[.slice none 0 0, .slice none 0 0, .slice none 0 0, .bool false, .bool false, .bool false, .string ⟨#[]⟩, .slice none 0 0, .bool false, .string ⟨#[]⟩, .bool false] 43)) := below_alloc (Below.refl _ w4) (Nat.le_refl _) _
        have f12 := bx11_at w4 (.slice none 0 0) (.slice none 0 0) (.slice none 0 0) (.bool false) (.bool false) (.bool false) (.string ⟨#[]⟩) (.slice none 0 0) (.bool false) (.string ⟨#[]⟩) (.bool false)
        have hγ : w.heap.size ≤ w4.heap.size := hB.size
        have hs : s1 < w4.heap.size ∧ s1 + 1 < w4.heap.size := hl
        replace f9 := own_below f9 bb
        replace hC : (w4.alloc (.cells #[.slice none 0 0, .slice none 0 0, .slice none 0 0, .bool false, .bool false, .bool false, .string ⟨#[]⟩, .slice none 0 0, .bool false, .string ⟨#[]⟩, .bool false] 43)).cell? ⟨s1, which, none⟩ = some (.string st) ∧ (w4.alloc (.cells #[.slice none 0 0, .slice none 0 0, .slice none 0 0, .bool false, .bool false, .bool false, .string ⟨#[]⟩, .slice none 0 0, .bool false, .string ⟨#[]⟩, .bool false] 43)).cell? ⟨s1 + 1, which, none⟩ = some (.string sp) := ⟨(bb.cell (p := ⟨s1, which, none⟩) hl.1).trans hC.1, (bb.cell (p := ⟨s1 + 1, which, none⟩) hl.2).trans hC.2⟩
        replace hl : s1 < (w4.alloc (.cells #[.slice none 0 0, .slice none 0 0, .slice none 0 0, .bool false, .bool false, .bool false, .string ⟨#[]⟩, .slice none 0 0, .bool false, .string ⟨#[]⟩, .bool false] 43)).heap.size ∧ s1 + 1 < (w4.alloc (.cells #[.slice none 0 0, .slice none 0 0, .slice none 0 0, .bool false, .bool false, .bool false, .string ⟨#[]⟩, .slice none 0 0, .bool false, .string ⟨#[]⟩, .bool false] 43)).heap.size := ⟨Nat.lt_of_lt_of_le hl.1 bb.size, Nat.lt_of_lt_of_le hl.2 bb.size⟩
        replace hB := hB.trans (bb.mono hB.size)
        clear bb
        generalize (w4.alloc (.cells #[.slice none 0 0, .slice none 0 0, .slice none 0 0, .bool false, .bool false, .bool false, .string ⟨#[]⟩, .slice none 0 0, .bool false, .string ⟨#[]⟩, .bool false] 43)) = w5 at hC hl hB f9 f12 ⊢
        generalize w4.heap.size = γ at f12 hγ hs ⊢
        first | (refine And.intro (a := _ ∧ _) hC ?_) | skip
        refine wpAnyC_one (i := 4) (by kernel_rfl) (wpOp_wanted rfl (by rfl) ?_)
        go_simp
        have bb : Below w5.heap.size w5 (w5.alloc (.cells #[.string st] 9)) := below_alloc (Below.refl _ w5) (Nat.le_refl _) _
        have f4 := one_row w5 w.heap.size tt st hB.size HST.out
        replace f9 := own_below f9 bb
        replace f12 := f12.below bb
        replace hC : (w5.alloc (.cells #[.string st] 9)).cell? ⟨s1, which, none⟩ = some (.string st) ∧ (w5.alloc (.cells #[.string st] 9)).cell? ⟨s1 + 1, which, none⟩ = some (.string sp) := ⟨(bb.cell (p := ⟨s1, which, none⟩) hl.1).trans hC.1, (bb.cell (p := ⟨s1 + 1, which, none⟩) hl.2).trans hC.2⟩
        replace hl : s1 < (w5.alloc (.cells #[.string st] 9)).heap.size ∧ s1 + 1 < (w5.alloc (.cells #[.string st] 9)).heap.size := ⟨Nat.lt_of_lt_of_le hl.1 bb.size, Nat.lt_of_lt_of_le hl.2 bb.size⟩
        replace hB := hB.trans (bb.mono hB.size)
        clear bb
        generalize (w5.alloc (.cells #[.string st] 9)) = w6 at hC hl hB f9 f12 f4 ⊢
        generalize w5.heap.size = α at f4 ⊢
        first | (refine And.intro (a := _ ∧ _) hC ?_) | skip
        (refine wpAnyC_take (i := 11) (v := ?_) hC rfl (by kernel_rfl) (by kernel_rfl) (by kernel_rfl) (fun _ _ _ h => (by cases h.1)) (Or.inl ⟨by kernel_rfl, ?_⟩) ?_; rotate_left; (intro w hc; clear hc; go_simp; try with_reducible rfl))
        go_simp
        have y0 := f12.c0
        have z0 := f12.fz 0
        have y1 := f12.c1
        have z1 := f12.fz 1
        have y2 := f12.c2
        have z2 := f12.fz 2
        have y3 := f12.c3
        have z3 := f12.fz 3
        have y4 := f12.c4
        have z4 := f12.fz 4
        have y5 := f12.c5
        have z5 := f12.fz 5
        have y6 := f12.c6
        have z6 := f12.fz 6
        have y7 := f12.c7
        have z7 := f12.fz 7
        have y8 := f12.c8
        have z8 := f12.fz 8
        have y9 := f12.c9
        have z9 := f12.fz 9
        have y10 := f12.c10
        have z10 := f12.fz 10
        refine wpAnyC_one (i := 13) (by kernel_rfl) (wpOp_wanted rfl (by rfl) ?_)
        go_simp
        refine wpAnyC_done (by kernel_rfl) ?_ _
        exact ⟨rfl, α, β, γ, by kernel_rfl, own_put11 f4 f12 (by decide) (.slice (some ⟨α, 0, none⟩) 1 1) (.slice (some ⟨β, 0, none⟩) 1 1) (.slice none 0 0) (.bool false) (.bool true) (.bool false) (.string ⟨#[]⟩) (.slice none 0 0) (.bool recipe) (.string ⟨#[]⟩) (.bool false), own_put11 f9 f12 (by decide) (.slice (some ⟨α, 0, none⟩) 1 1) (.slice (some ⟨β, 0, none⟩) 1 1) (.slice none 0 0) (.bool false) (.bool true) (.bool false) (.string ⟨#[]⟩) (.slice none 0 0) (.bool recipe) (.string ⟨#[]⟩) (.bool false), f12.set, put11_below hB hγ (.slice (some ⟨α, 0, none⟩) 1 1) (.slice (some ⟨β, 0, none⟩) 1 1) (.slice none 0 0) (.bool false) (.bool true) (.bool false) (.string ⟨#[]⟩) (.slice none 0 0) (.bool recipe) (.string ⟨#[]⟩) (.bool false)⟩
    · go_simp
      have bb : Below w3.heap.size w3 (w3.alloc (.cells #[.slice none 0 0, .slice none 0 0, .slice none 0 0, .bool false, .bool false, .bool false, .string ⟨#[]⟩, .slice none 0 0, .bool false, .string ⟨#[]⟩, .bool false] 43)) := below_alloc (Below.refl _ w3) (Nat.le_refl _) _
      have f12 := bx11_at w3 (.slice none 0 0) (.slice none 0 0) (.slice none 0 0) (.bool false) (.bool false) (.bool false) (.string ⟨#[]⟩) (.slice none 0 0) (.bool false) (.string ⟨#[]⟩) (.bool false)
      have hγ : w.heap.size ≤ w3.heap.size := hB.size
      have hs : s1 < w3.heap.size ∧ s1 + 1 < w3.heap.size := hl
      replace hC : (w3.alloc (.cells #[.slice none 0 0, .slice none 0 0, .slice none 0 0, .bool false, .bool false, .bool false, .string ⟨#[]⟩, .slice none 0 0, .bool false, .string ⟨#[]⟩, .bool false] 43)).cell? ⟨s1, which, none⟩ = some (.string st) ∧ (w3.alloc (.cells #[.slice none 0 0, .slice none 0 0, .slice none 0 0, .bool false, .bool false, .bool false, .string ⟨#[]⟩, .slice none 0 0, .bool false, .string ⟨#[]⟩, .bool false] 43)).cell? ⟨s1 + 1, which, none⟩ = some (.string sp) := ⟨(bb.cell (p := ⟨s1, which, none⟩) hl.1).trans hC.1, (bb.cell (p := ⟨s1 + 1, which, none⟩) hl.2).trans hC.2⟩
      replace hl : s1 < (w3.alloc (.cells #[.slice none 0 0, .slice none 0 0, .slice none 0 0, .bool false, .bool false, .bool false, .string ⟨#[]⟩, .slice none 0 0, .bool false, .string ⟨#[]⟩, .bool false] 43)).heap.size ∧ s1 + 1 < (w3.alloc (.cells #[.slice none 0 0, .slice none 0 0, .slice none 0 0, .bool false, .bool false, .bool false, .string ⟨#[]⟩, .slice none 0 0, .bool false, .string ⟨#[]⟩, .bool false] 43)).heap.size := ⟨Nat.lt_of_lt_of_le hl.1 bb.size, Nat.lt_of_lt_of_le hl.2 bb.size⟩
      replace hB := hB.trans (bb.mono hB.size)
      clear bb
      generalize (w3.alloc (.cells #[.slice none 0 0, .slice none 0 0, .slice none 0 0, .bool false, .bool false, .bool false, .string ⟨#[]⟩, .slice none 0 0, .bool false, .string ⟨#[]⟩, .bool false] 43)) = w4 at hC hl hB f12 ⊢
      generalize w3.heap.size = γ at f12 hγ hs ⊢
      first | (refine And.intro (a := _ ∧ _) hC ?_) | skip
      refine wpAnyC_two (i := 4) (j := 9) (by kernel_rfl) (wpOp_wanted rfl (by rfl) ?_) (wpOp_wanted rfl (by rfl) ?_)
      · go_simp
        have bb : Below w4.heap.size w4 (w4.alloc (.cells #[.string st] 9)) := below_alloc (Below.refl _ w4) (Nat.le_refl _) _
        have f4 := one_row w4 w.heap.size tt st hB.size HST.out
        replace f12 := f12.below bb
        replace hC : (w4.alloc (.cells #[.string st] 9)).cell? ⟨s1, which, none⟩ = some (.string st) ∧ (w4.alloc (.cells #[.string st] 9)).cell? ⟨s1 + 1, which, none⟩ = some (.string sp) := ⟨(bb.cell (p := ⟨s1, which, none⟩) hl.1).trans hC.1, (bb.cell (p := ⟨s1 + 1, which, none⟩) hl.2).trans hC.2⟩
        replace hl : s1 < (w4.alloc (.cells #[.string st] 9)).heap.size ∧ s1 + 1 < (w4.alloc (.cells #[.string st] 9)).heap.size := ⟨Nat.lt_of_lt_of_le hl.1 bb.size, Nat.lt_of_lt_of_le hl.2 bb.size⟩
        replace hB := hB.trans (bb.mono hB.size)
        clear bb
        generalize (w4.alloc (.cells #[.string st] 9)) = w5 at hC hl hB f12 f4 ⊢
        generalize w4.heap.size = α at f4 ⊢
        first | (refine And.intro (a := _ ∧ _) hC ?_) | skip
        refine wpAnyC_one (i := 9) (by kernel_rfl) (wpOp_wanted rfl (by rfl) ?_)
        go_simp
        have bb : Below w5.heap.size w5 (w5.alloc (.cells #[.string sp] 9)) := below_alloc (Below.refl _ w5) (Nat.le_refl _) _
        have f9 := one_row w5 w.heap.size pp sp hB.size HSP.out
        replace f12 := f12.below bb
        replace f4 := own_below f4 bb
        replace hC : (w5.alloc (.cells #[.string sp] 9)).cell? ⟨s1, which, none⟩ = some (.string st) ∧ (w5.alloc (.cells #[.string sp] 9)).cell? ⟨s1 + 1, which, none⟩ = some (.string sp) := ⟨(bb.cell (p := ⟨s1, which, none⟩) hl.1).trans hC.1, (bb.cell (p := ⟨s1 + 1, which, none⟩) hl.2).trans hC.2⟩
        replace hl : s1 < (w5.alloc (.cells #[.string sp] 9)).heap.size ∧ s1 + 1 < (w5.alloc (.cells #[.string sp] 9)).heap.size := ⟨Nat.lt_of_lt_of_le hl.1 bb.size, Nat.lt_of_lt_of_le hl.2 bb.size⟩
        replace hB := hB.trans (bb.mono hB.size)
        clear bb
        generalize (w5.alloc (.cells #[.string sp] 9)) = w6 at hC hl hB f12 f4 f9 ⊢
        generalize w5.heap.size = β at f9 ⊢
        first | (refine And.intro (a := _ ∧ _) hC ?_) | skip
        (refine wpAnyC_take (i := 11) (v := ?_) hC rfl (by kernel_rfl) (by kernel_rfl) (by kernel_rfl) (fun _ _ _ h => (by cases h.1)) (Or.inl ⟨by kernel_rfl, ?_⟩) ?_; rotate_left; (intro w hc; clear hc; go_simp; try with_reducible rfl))
        go_simp
        have y0 := f12.c0
        have z0 := f12.fz 0
        have y1 := f12.c1
        have z1 := f12.fz 1
        have y2 := f12.c2
        have z2 := f12.fz 2
        have y3 := f12.c3
        have z3 := f12.fz 3
        have y4 := f12.c4
        have z4 := f12.fz 4
        have y5 := f12.c5
        have z5 := f12.fz 5
        have y6 := f12.c6
        have z6 := f12.fz 6
        have y7 := f12.c7
        have z7 := f12.fz 7
        have y8 := f12.c8
        have z8 := f12.fz 8
        have y9 := f12.c9
        have z9 := f12.fz 9
        have y10 := f12.c10
        have z10 := f12.fz 10
        refine wpAnyC_one (i := 13) (by kernel_rfl) (wpOp_wanted rfl (by rfl) ?_)
        go_simp
        refine wpAnyC_done (by kernel_rfl) ?_ _
        exact ⟨rfl, α, β, γ, by kernel_rfl, own_put11 f4 f12 (by decide) (.slice (some ⟨α, 0, none⟩) 1 1) (.slice (some ⟨β, 0, none⟩) 1 1) (.slice none 0 0) (.bool false) (.bool true) (.bool false) (.string ⟨#[]⟩) (.slice none 0 0) (.bool recipe) (.string ⟨#[]⟩) (.bool false), own_put11 f9 f12 (by decide) (.slice (some ⟨α, 0, none⟩) 1 1) (.slice (some ⟨β, 0, none⟩) 1 1) (.slice none 0 0) (.bool false) (.bool true) (.bool false) (.string ⟨#[]⟩) (.slice none 0 0) (.bool recipe) (.string ⟨#[]⟩) (.bool false), f12.set, put11_below hB hγ (.slice (some ⟨α, 0, none⟩) 1 1) (.slice (some ⟨β, 0, none⟩) 1 1) (.slice none 0 0) (.bool false) (.bool true) (.bool false) (.string ⟨#[]⟩) (.slice none 0 0) (.bool recipe) (.string ⟨#[]⟩) (.bool false)⟩
      · go_simp
        have bb : Below w4.heap.size w4 (w4.alloc (.cells #[.string sp] 9)) := below_alloc (Below.refl _ w4) (Nat.le_refl _) _
        have f9 := one_row w4 w.heap.size pp sp hB.size HSP.out
        replace f12 := f12.below bb
        replace hC : (w4.alloc (.cells #[.string sp] 9)).cell? ⟨s1, which, none⟩ = some (.string st) ∧ (w4.alloc (.cells #[.string sp] 9)).cell? ⟨s1 + 1, which, none⟩ = some (.string sp) := ⟨(bb.cell (p := ⟨s1, which, none⟩) hl.1).trans hC.1, (bb.cell (p := ⟨s1 + 1, which, none⟩) hl.2).trans hC.2⟩
        replace hl : s1 < (w4.alloc (.cells #[.string sp] 9)).heap.size ∧ s1 + 1 < (w4.alloc (.cells #[.string sp] 9)).heap.size := ⟨Nat.lt_of_lt_of_le hl.1 bb.size, Nat.lt_of_lt_of_le hl.2 bb.size⟩
        replace hB := hB.trans (bb.mono hB.size)
        clear bb
        generalize (w4.alloc (.cells #[.string sp] 9)) = w5 at hC hl hB f12 f9 ⊢
        generalize w4.heap.size = β at f9 ⊢
        first | (refine And.intro (a := _ ∧ _) hC ?_) | skip
        refine wpAnyC_one (i := 4) (by kernel_rfl) (wpOp_wanted rfl (by rfl) ?_)
        go_simp
        have bb : Below w5.heap.size w5 (w5.alloc (.cells #[.string st] 9)) := below_alloc (Below.refl _ w5) (Nat.le_refl _) _
        have f4 := one_row w5 w.heap.size tt st hB.size HST.out
        replace f12 := f12.below bb
        replace f9 := own_below f9 bb
        replace hC : (w5.alloc (.cells #[.string st] 9)).cell? ⟨s1, which, none⟩ = some (.string st) ∧ (w5.alloc (.cells #[.string st] 9)).cell? ⟨s1 + 1, which, none⟩ = some (.string sp) := ⟨(bb.cell (p := ⟨s1, which, none⟩) hl.1).trans hC.1, (bb.cell (p := ⟨s1 + 1, which, none⟩) hl.2).trans hC.2⟩
        replace hl : s1 < (w5.alloc (.cells #[.string st] 9)).heap.size ∧ s1 + 1 < (w5.alloc (.cells #[.string st] 9)).heap.size := ⟨Nat.lt_of_lt_of_le hl.1 bb.size, Nat.lt_of_lt_of_le hl.2 bb.size⟩
        replace hB := hB.trans (bb.mono hB.size)
        clear bb
        generalize (w5.alloc (.cells #[.string st] 9)) = w6 at hC hl hB f12 f9 f4 ⊢
        generalize w5.heap.size = α at f4 ⊢
        first | (refine And.intro (a := _ ∧ _) hC ?_) | skip
        (refine wpAnyC_take (i := 11) (v := ?_) hC rfl (by kernel_rfl) (by kernel_rfl) (by kernel_rfl) (fun _ _ _ h => (by cases h.1)) (Or.inl ⟨by kernel_rfl, ?_⟩) ?_; rotate_left; (intro w hc; clear hc; go_simp; try with_reducible rfl))
        go_simp
        have y0 := f12.c0
        have z0 := f12.fz 0
        have y1 := f12.c1
        have z1 := f12.fz 1
        have y2 := f12.c2
        have z2 := f12.fz 2
        have y3 := f12.c3
        have z3 := f12.fz 3
        have y4 := f12.c4
        have z4 := f12.fz 4
        have y5 := f12.c5
        have z5 := f12.fz 5
        have y6 := f12.c6
        have z6 := f12.fz 6
        have y7 := f12.c7
        have z7 := f12.fz 7
        have y8 := f12.c8
        have z8 := f12.fz 8
        have y9 := f12.c9
        have z9 := f12.fz 9
        have y10 := f12.c10
        have z10 := f12.fz 10
        refine wpAnyC_one (i := 13) (by kernel_rfl) (wpOp_wanted rfl (by rfl) ?_)
        go_simp
        refine wpAnyC_done (by kernel_rfl) ?_ _
        exact ⟨rfl, α, β, γ, by kernel_rfl, own_put11 f4 f12 (by decide) (.slice (some ⟨α, 0, none⟩) 1 1) (.slice (some ⟨β, 0, none⟩) 1 1) (.slice none 0 0) (.bool false) (.bool true) (.bool false) (.string ⟨#[]⟩) (.slice none 0 0) (.bool recipe) (.string ⟨#[]⟩) (.bool false), own_put11 f9 f12 (by decide) (.slice (some ⟨α, 0, none⟩) 1 1) (.slice (some ⟨β, 0, none⟩) 1 1) (.slice none 0 0) (.bool false) (.bool true) (.bool false) (.string ⟨#[]⟩) (.slice none 0 0) (.bool recipe) (.string ⟨#[]⟩) (.bool false), f12.set, put11_below hB hγ (.slice (some ⟨α, 0, none⟩) 1 1) (.slice (some ⟨β, 0, none⟩) 1 1) (.slice none 0 0) (.bool false) (.bool true) (.bool false) (.string ⟨#[]⟩) (.slice none 0 0) (.bool recipe) (.string ⟨#[]⟩) (.bool false)⟩
  · intro α β γ w4 ⟨ht, hp, hx, hB4⟩
    obtain ⟨x, hxr, hxc, hxo⟩ : ∃ x : Rx, x.r = ruL tt pp recipe ∧ rxC x = [.slice (some ⟨α, 0, none⟩) 1 1, .slice (some ⟨β, 0, none⟩) 1 1, .slice none 0 0, .bool false, .bool true, .bool false, .string ⟨#[]⟩, .slice none 0 0, .bool recipe, .string ⟨#[]⟩, .bool false] ∧ RxO w4 w.heap.size x := ⟨⟨ruL tt pp recipe, .slice (some ⟨α, 0, none⟩) 1 1, .slice (some ⟨β, 0, none⟩) 1 1, .slice none 0 0, .slice none 0 0⟩, rfl, rfl, ⟨ht, hp, World.ownsRow_nil _ _ _ _, World.ownsRow_nil _ _ _ _⟩⟩
    have h1r := one_rule w4 w.heap.size x hB4.size
    rw [hxc] at h1r
    have h1r : (w4.alloc (.cells #[.slice (some ⟨α, 0, none⟩) 1 1, .slice (some ⟨β, 0, none⟩) 1 1, .slice none 0 0, .bool false, .bool true, .bool false, .string ⟨#[]⟩, .slice none 0 0, .bool recipe, .string ⟨#[]⟩, .bool false] 43)).ownsRow w.heap.size 43 11 (.slice (some ⟨w4.heap.size, 0, none⟩) 1 1) [x].length (flatR [x]) := h1r
    have hba : Below w4.heap.size w4 (w4.alloc (.cells #[.slice (some ⟨α, 0, none⟩) 1 1, .slice (some ⟨β, 0, none⟩) 1 1, .slice none 0 0, .bool false, .bool true, .bool false, .string ⟨#[]⟩, .slice none 0 0, .bool recipe, .string ⟨#[]⟩, .bool false] 43)) := below_alloc (Below.refl _ w4) (Nat.le_refl _) _
    have hO5 : OwnR (w4.alloc (.cells #[.slice (some ⟨α, 0, none⟩) 1 1, .slice (some ⟨β, 0, none⟩) 1 1, .slice none 0 0, .bool false, .bool true, .bool false, .string ⟨#[]⟩, .slice none 0 0, .bool recipe, .string ⟨#[]⟩, .bool false] 43)) w.heap.size (.slice (some ⟨w4.heap.size, 0, none⟩) 1 1) [x] := ⟨h1r, fun z hz => by
      obtain rfl : z = x := by simpa using hz
      exact hxo.below hba⟩
    have hx5 := hx.below hba
    have hB5 := hB4.trans (hba.mono hB4.size)
    have hs5 : (w4.alloc (.cells #[.slice (some ⟨α, 0, none⟩) 1 1, .slice (some ⟨β, 0, none⟩) 1 1, .slice none 0 0, .bool false, .bool true, .bool false, .string ⟨#[]⟩, .slice none 0 0, .bool recipe, .string ⟨#[]⟩, .bool false] 43)).heap.size = w4.heap.size + 1 := World.size_alloc _ _
    have hbb : Below (w4.alloc (.cells #[.slice (some ⟨α, 0, none⟩) 1 1, .slice (some ⟨β, 0, none⟩) 1 1, .slice none 0 0, .bool false, .bool true, .bool false, .string ⟨#[]⟩, .slice none 0 0, .bool recipe, .string ⟨#[]⟩, .bool false] 43)).heap.size (w4.alloc (.cells #[.slice (some ⟨α, 0, none⟩) 1 1, .slice (some ⟨β, 0, none⟩) 1 1, .slice none 0 0, .bool false, .bool true, .bool false, .string ⟨#[]⟩, .slice none 0 0, .bool recipe, .string ⟨#[]⟩, .bool false] 43)) ((w4.alloc (.cells #[.slice (some ⟨α, 0, none⟩) 1 1, .slice (some ⟨β, 0, none⟩) 1 1, .slice none 0 0, .bool false, .bool true, .bool false, .string ⟨#[]⟩, .slice none 0 0, .bool recipe, .string ⟨#[]⟩, .bool false] 43)).alloc (.cells #[.slice (some ⟨w4.heap.size, 0, none⟩) 1 1, .slice none 0 0, .slice none 0 0, .slice none 0 0, .slice none 0 0, .string ⟨#[]⟩, .slice none 0 0] 28)) := below_alloc (Below.refl _ _) (Nat.le_refl _) _
    have hb6 : B28 ((w4.alloc (.cells #[.slice (some ⟨α, 0, none⟩) 1 1, .slice (some ⟨β, 0, none⟩) 1 1, .slice none 0 0, .bool false, .bool true, .bool false, .string ⟨#[]⟩, .slice none 0 0, .bool recipe, .string ⟨#[]⟩, .bool false] 43)).alloc (.cells #[.slice (some ⟨w4.heap.size, 0, none⟩) 1 1, .slice none 0 0, .slice none 0 0, .slice none 0 0, .slice none 0 0, .string ⟨#[]⟩, .slice none 0 0] 28)) (w4.heap.size + 1) (.slice (some ⟨w4.heap.size, 0, none⟩) 1 1) := by
      have := heap_alloc_new (w4.alloc (.cells #[.slice (some ⟨α, 0, none⟩) 1 1, .slice (some ⟨β, 0, none⟩) 1 1, .slice none 0 0, .bool false, .bool true, .bool false, .string ⟨#[]⟩, .slice none 0 0, .bool recipe, .string ⟨#[]⟩, .bool false] 43)) (.cells #[.slice (some ⟨w4.heap.size, 0, none⟩) 1 1, .slice none 0 0, .slice none 0 0, .slice none 0 0, .slice none 0 0, .string ⟨#[]⟩, .slice none 0 0] 28)
      rw [hs5] at this
      exact this
    have hO6 := hO5.below hbb
    have hx6 := hx5.below hbb
    have hxo6 := (hxo.below hba).below hbb
    have hB6 := hB5.trans (hbb.mono hB5.size)
    have hs4l : w.heap.size ≤ w4.heap.size := hB4.size
    clear hr0 hr1 hl2 hB2 ht hp hxo hba h1r hO5 hx5 hB5 hs5 hbb hB4
    have HXC := hide' (And.intro hxr hxc)
    clear hxr hxc
    have x0 := hx.c0
    have x1 := hx.c1
    have x2 := hx.c2
    have x3 := hx.c3
    have x4 := hx.c4
    have x5 := hx.c5
    have x6 := hx.c6
    have x7 := hx.c7
    have x8 := hx.c8
    have x9 := hx.c9
    have x10 := hx.c10
    clear hx
    go_upto_region 8 with fail
    generalize (w4.alloc (.cells #[.slice (some ⟨α, 0, none⟩) 1 1, .slice (some ⟨β, 0, none⟩) 1 1, .slice none 0 0, .bool false, .bool true, .bool false, .string ⟨#[]⟩, .slice none 0 0, .bool recipe, .string ⟨#[]⟩, .bool false] 43)).alloc (.cells #[.slice (some ⟨w4.heap.size, 0, none⟩) 1 1, .slice none 0 0, .slice none 0 0, .slice none 0 0, .slice none 0 0, .string ⟨#[]⟩, .slice none 0 0] 28) = w6 at hb6 hO6 hx6 hxo6 hB6 ⊢
    clear x0 x1 x2 x3 x4 x5 x6 x7 x8 x9 x10
    generalize w4.heap.size = s4 at hb6 hO6 hs4l ⊢
    obtain ⟨ε, hε⟩ : ∃ ε, ε = s4 + 1 := ⟨_, rfl⟩
    have hεl : w.heap.size ≤ ε := by rw [hε]; exact Nat.le_trans hs4l (Nat.le_succ _)
    rw [← hε] at hb6 ⊢
    clear hε
    cases twice with
    | false =>
      have hfit : ∀ z ∈ [x], FitR 100000000 z.r := fun z hz => by
        obtain rfl : z = x := by simpa using hz
        rw [HXC.out.1, HTP.out.1, HTP.out.2]
        exact ru_fit which hwh recipe
      have kN := new_any [x] (.slice (some ⟨s4, 0, none⟩) 1 1) w6 (HG.out.below hB6) hO6.reads (by simp) hfit
      have hrs : rs [x] = [ruL (tsL.getD which []) (psL.getD which []) recipe] := by
        show [x.r] = _
        rw [HXC.out.1, HTP.out.1, HTP.out.2]
      have hlen : ([x]).length = 1 := rfl
      rw [hrs, hlen, plain_1 which hwh recipe] at kN
      clear hrs hlen hfit
      have u0 := hb6.c0
      have u1 := hb6.c1
      have u2 := hb6.c2
      have u3 := hb6.c3
      have u4 := hb6.c4
      have u5 := hb6.c5
      have u6 := hb6.c6
      have HE := hide' hb6
      have HB := hide' hB6
      have hrec : ∀ b : Bool, (if b then [0] else []) = l0B 0 b := fun _ => rfl
      rw [hrec] at kN
      clear hrec
      generalize hl0 : l0B 0 recipe = l0 at kN
      have HL0 := hide' hl0
      clear hl0
      go_wp2_with fail
      refine kN.mono ?_
      rintro e w20 ⟨D, rfl, M, BG, n, rv, lv, v3, R, A, hX, hR, hA, hn, hI⟩
      dsimp only
      clear kN u0 u1 u2 u3 u4 u5 u6 hR hA
      have u0 := (HE.out.below hX.be).c0
      have HX := hide' (And.intro hX hI)
      clear hX hI
      have hW0 : w20.ownsInts w20.heap.size 3 .i64 (.slice none 0 0) (nI []) := World.ownsInts_nil _ _ _ _
      have fin : ∀ (a : Option Addr) (m c : Nat) (W : World), W.ownsInts w20.heap.size 3 .i64 (.slice a m c) (nI (l0 ++ wantP 1 which 4)) → Below w20.heap.size w20 W → Calls Tryd.prog 18 #[.pointer (some ⟨D, 0, none⟩)] W fun e w' => ∃ v', e = .returned v' ∧ w'.ownsInts W.heap.size 3 .i64 v' (nI (l0 ++ wantP 1 which 4)) ∧ Below W.heap.size W w' := fun a m c W _ hbW =>
        implicit_any D w6.heap.size rv lv _ v3 (l0 ++ wantP 1 which 4) W (HX.out.1.db.below hbW) ⟨own_below HX.out.2.1 hbW, HX.out.2.2⟩ (by have h1 : l0.length ≤ 1 := HL0.out ▸ l0_len _ _; have h2 := wantP_len 1 which 4; rw [List.length_append]; omega)
      have hBf : Below w.heap.size w w20 := HB.out.trans (HX.out.1.be.mono HB.out.size)
      cases recipe with
      | false =>
        have hl0 : l0 = [] := HL0.out.symm
        subst hl0
        have HW := hide' (And.intro hW0 (Below.refl w20.heap.size w20))
        clear hW0
        go_wp2
        clear u0
        go_loopw [15, 14] (fun i l wr => ∃ k : Nat, k ≤ 4 ∧ i = .int .i64 k ∧ wr.ownsInts w20.heap.size 3 .i64 l (nI ([] ++ wantP 1 which k)) ∧ Below w20.heap.size w20 wr) (fun i _ _ => 4 - (intOf i).toNat)
        case atStart => exact ⟨0, Nat.zero_le _, rfl, HW.out.1, HW.out.2⟩
        case round =>
          clear HW
          obtain ⟨k, hk, rfl, hO, hBk⟩ := hrel
          have hlw : ([] ++ wantP 1 which k).length ≤ 10 := by have := wantP_len 1 which k; rw [List.length_append]; simp; omega
          obtain ⟨la, lm, lc, rfl⟩ := own_form3 hO.1
          by_cases hlt : k < 4
          · have t0 : (k : Int) < 4 := by omega
            by_cases hkw : k = which
            · have t1 : ((k : Int) != (which : Int)) = false := by rw [hkw]; simp
              have hO' : wr.ownsInts w20.heap.size 3 .i64 (.slice la lm lc) (nI ([] ++ wantP 1 which (k + 1))) := by
                have e : wantP 1 which (k + 1) = wantP 1 which k := by simp [wantP, hkw]
                rw [e]
                exact hO
              have HO' := hide' (And.intro hO' hBk)
              clear hO hO' hBk hkw hlw
              go_wp2
              exact ⟨⟨k + 1, by omega, by go_num, HO'.out.1, HO'.out.2⟩, by simp [intOf]; omega⟩
            · have t1 : ((k : Int) != (which : Int)) = true := by simp; omega
              obtain ⟨xa, xm, xc, w31, hrun, hO1, hb31⟩ := app_want hO (1 + k) (by omega) (by omega) hBk (Nat.le_refl _)
              have hO' : w31.ownsInts w20.heap.size 3 .i64 (.slice xa xm xc) (nI ([] ++ wantP 1 which (k + 1))) := by
                have e : [] ++ wantP 1 which (k + 1) = ([] ++ wantP 1 which k) ++ [1 + k] := by simp [wantP, hkw]
                rw [e]
                exact hO1
              have HO' := hide' (And.intro hO' hb31)
              have e5 : ((1 + k : Nat) : Int) = 1 + (k : Int) := by omega
              rw [e5] at hrun
              clear hO hO' hBk hkw hO1 hb31 e5 hlw
              go_wp2_with (at_builtin; refine wpList_app_run rfl _ _ 46 rfl _ _ _ _ rfl rfl hrun ?_)
              exact ⟨⟨k + 1, by omega, by go_num, HO'.out.1, HO'.out.2⟩, by simp [intOf]; omega⟩
          · have hk4 : k = 4 := by omega
            have t0 : ¬ (k : Int) < 4 := by omega
            rw [hk4] at hO hlw
            have kI := fin _ _ _ wr hO hBk
            have HO' := hide' (And.intro hO hBk)
            clear hO hBk fin hk4
            go_wp2_with fail
            refine kI.mono ?_
            rintro e w32 ⟨iv, rfl, hI2, hb32⟩
            have kM := same_any _ _ iv (.slice la lm lc) ([] ++ wantP 1 which 4) w32 hI2 ⟨own_below HO'.out.1.1 hb32, HO'.out.1.2⟩ (by omega)
            obtain ⟨ja, jm, jc, rfl⟩ := own_form3 hI2.1
            dsimp only
            clear kI hI2
            go_wp2_with fail
            refine kM.mono ?_
            rintro e w33 ⟨rfl, hb33⟩
            dsimp only
            have h1 := hBf.trans (HO'.out.2.mono hBf.size)
            have h2 := h1.trans (hb32.mono h1.size)
            have h3 := h2.trans (hb33.mono h2.size)
            clear kM
            go_wp2
            go_ret
            exact ⟨rfl, h3⟩
      | true =>
        have hl0 : l0 = [0] := HL0.out.symm
        subst hl0
        obtain ⟨ga, gm, gc, w21, hrun, hO, hb21⟩ := app_want hW0 0 (by omega) (by simp) (Below.refl w20.heap.size w20) (Nat.le_refl _)
        have HW := hide' (And.intro hO hb21)
        clear hW0 hO hb21
        go_wp2_with (at_builtin; refine wpList_app_run rfl _ _ 46 rfl _ _ _ _ rfl rfl hrun ?_)
        clear hrun
        clear u0
        go_loopw [15, 14] (fun i l wr => ∃ k : Nat, k ≤ 4 ∧ i = .int .i64 k ∧ wr.ownsInts w20.heap.size 3 .i64 l (nI ([0] ++ wantP 1 which k)) ∧ Below w20.heap.size w20 wr) (fun i _ _ => 4 - (intOf i).toNat)
        case atStart => exact ⟨0, Nat.zero_le _, rfl, HW.out.1, HW.out.2⟩
        case round =>
          clear HW
          obtain ⟨k, hk, rfl, hO, hBk⟩ := hrel
          have hlw : ([0] ++ wantP 1 which k).length ≤ 10 := by have := wantP_len 1 which k; rw [List.length_append]; simp; omega
          obtain ⟨la, lm, lc, rfl⟩ := own_form3 hO.1
          by_cases hlt : k < 4
          · have t0 : (k : Int) < 4 := by omega
            by_cases hkw : k = which
            · have t1 : ((k : Int) != (which : Int)) = false := by rw [hkw]; simp
              have hO' : wr.ownsInts w20.heap.size 3 .i64 (.slice la lm lc) (nI ([0] ++ wantP 1 which (k + 1))) := by
                have e : wantP 1 which (k + 1) = wantP 1 which k := by simp [wantP, hkw]
                rw [e]
                exact hO
              have HO' := hide' (And.intro hO' hBk)
              clear hO hO' hBk hkw hlw
              go_wp2
              exact ⟨⟨k + 1, by omega, by go_num, HO'.out.1, HO'.out.2⟩, by simp [intOf]; omega⟩
            · have t1 : ((k : Int) != (which : Int)) = true := by simp; omega
              obtain ⟨xa, xm, xc, w31, hrun, hO1, hb31⟩ := app_want hO (1 + k) (by omega) (by omega) hBk (Nat.le_refl _)
              have hO' : w31.ownsInts w20.heap.size 3 .i64 (.slice xa xm xc) (nI ([0] ++ wantP 1 which (k + 1))) := by
                have e : [0] ++ wantP 1 which (k + 1) = ([0] ++ wantP 1 which k) ++ [1 + k] := by simp [wantP, hkw]
                rw [e]
                exact hO1
              have HO' := hide' (And.intro hO' hb31)
              have e5 : ((1 + k : Nat) : Int) = 1 + (k : Int) := by omega
              rw [e5] at hrun
              clear hO hO' hBk hkw hO1 hb31 e5 hlw
              go_wp2_with (at_builtin; refine wpList_app_run rfl _ _ 46 rfl _ _ _ _ rfl rfl hrun ?_)
              exact ⟨⟨k + 1, by omega, by go_num, HO'.out.1, HO'.out.2⟩, by simp [intOf]; omega⟩
          · have hk4 : k = 4 := by omega
            have t0 : ¬ (k : Int) < 4 := by omega
            rw [hk4] at hO hlw
            have kI := fin _ _ _ wr hO hBk
            have HO' := hide' (And.intro hO hBk)
            clear hO hBk fin hk4
            go_wp2_with fail
            refine kI.mono ?_
            rintro e w32 ⟨iv, rfl, hI2, hb32⟩
            have kM := same_any _ _ iv (.slice la lm lc) ([0] ++ wantP 1 which 4) w32 hI2 ⟨own_below HO'.out.1.1 hb32, HO'.out.1.2⟩ (by omega)
            obtain ⟨ja, jm, jc, rfl⟩ := own_form3 hI2.1
            dsimp only
            clear kI hI2
            go_wp2_with fail
            refine kM.mono ?_
            rintro e w33 ⟨rfl, hb33⟩
            dsimp only
            have h1 := hBf.trans (HO'.out.2.mono hBf.size)
            have h2 := h1.trans (hb32.mono h1.size)
            have h3 := h2.trans (hb33.mono h2.size)
            clear kM
            go_wp2
            go_ret
            exact ⟨rfl, h3⟩
    | true =>
      have x0 := hx6.c0
      have x1 := hx6.c1
      have x2 := hx6.c2
      have x3 := hx6.c3
      have x4 := hx6.c4
      have x5 := hx6.c5
      have x6 := hx6.c6
      have x7 := hx6.c7
      have x8 := hx6.c8
      have x9 := hx6.c9
      have x10 := hx6.c10
      have h1r := one_rule w6 w.heap.size x hB6.size
      rw [HXC.out.2] at h1r
      have h1r : (w6.alloc (.cells #[.slice (some ⟨α, 0, none⟩) 1 1, .slice (some ⟨β, 0, none⟩) 1 1, .slice none 0 0, .bool false, .bool true, .bool false, .string ⟨#[]⟩, .slice none 0 0, .bool recipe, .string ⟨#[]⟩, .bool false] 43)).ownsRow w.heap.size 43 11 (.slice (some ⟨w6.heap.size, 0, none⟩) [x].length 1) [x].length (flatR [x]) := h1r
      have hba : Below w6.heap.size w6 (w6.alloc (.cells #[.slice (some ⟨α, 0, none⟩) 1 1, .slice (some ⟨β, 0, none⟩) 1 1, .slice none 0 0, .bool false, .bool true, .bool false, .string ⟨#[]⟩, .slice none 0 0, .bool recipe, .string ⟨#[]⟩, .bool false] 43)) := below_alloc (Below.refl _ w6) (Nat.le_refl _) _
      have hO7 := hO6.below hba
      have hE7 := hb6.below hba
      have hB7 := hB6.trans (hba.mono hB6.size)
      have hxz : ∀ z ∈ [x], RxO (w6.alloc (.cells #[.slice (some ⟨α, 0, none⟩) 1 1, .slice (some ⟨β, 0, none⟩) 1 1, .slice none 0 0, .bool false, .bool true, .bool false, .string ⟨#[]⟩, .slice none 0 0, .bool recipe, .string ⟨#[]⟩, .bool false] 43)) w.heap.size z := fun z hz => by
        obtain rfl : z = x := by simpa using hz
        exact hxo6.below hba
      obtain ⟨v', w8, hrun, ho8, hg8, _⟩ := app_rows hO7 h1r hxz (by simp) (by simp) hB7.size
      clear hxz
      have hrun : ∀ ty : TypeId, (Builtin.append_ #[22, 22] ty #[.slice (some ⟨s4, 0, none⟩) 1 1, .slice (some ⟨w6.heap.size, 0, none⟩) 1 1]).run Tryd.prog (w6.alloc (.cells #[.slice (some ⟨α, 0, none⟩) 1 1, .slice (some ⟨β, 0, none⟩) 1 1, .slice none 0 0, .bool false, .bool true, .bool false, .string ⟨#[]⟩, .slice none 0 0, .bool recipe, .string ⟨#[]⟩, .bool false] 43)) = .ok v' w8 := hrun
      obtain ⟨va, vc, rfl⟩ : ∃ a c, v' = .slice a 2 c := own_len ho8.row
      have hE8 : B28 w8 ε (.slice (some ⟨s4, 0, none⟩) 1 1) := (hg8.block ε hE7.lt (fun e => own_block hO7.row hE7 (by decide) e.symm)).trans hE7
      have hB8 : Below w.heap.size w w8 := hB7.grown hg8 hB7.size (fun k hk => own_low hO7.row k hk)
      have hE9 : B28 (w8.setCell ⟨ε, 0, none⟩ (.slice va 2 vc)) ε (.slice va 2 vc) := set_block hE8 0 _
      have hO9 : OwnR (w8.setCell ⟨ε, 0, none⟩ (.slice va 2 vc)) w.heap.size (.slice va 2 vc) ([x] ++ [x]) := ho8.turn (grown_set w8 ε 0 _) (fun g hg e => own_block ho8.row hE8 (by decide) (by rw [hg, e])) (fun g hg => by
        cases hg
        exact ⟨_, _, _, hE8, by decide⟩)
      have hB9 : Below w.heap.size w (w8.setCell ⟨ε, 0, none⟩ (.slice va 2 vc)) := hB8.setCell hεl _
      have u0 := hb6.c0
      have v0 := hE8.c0
      have z0 := hE8.fz 0
      have H9 := hide' (And.intro hE9 (And.intro hO9 hB9))
      clear hO6 hx6 hxo6 hB6 h1r hba hO7 hE7 hB7 ho8 hg8 hE9 hO9 hB9 hB8 hE8 hb6
      go_upto_region 10 with (at_builtin; refine wpList_app_run rfl _ _ 22 rfl _ _ _ _ rfl rfl hrun ?_)
      clear hrun u0 v0 z0 x0 x1 x2 x3 x4 x5 x6 x7 x8 x9 x10
      generalize w8.setCell ⟨ε, 0, none⟩ (.slice va 2 vc) = w9 at H9 ⊢
      obtain ⟨hE9, hO9, hB9⟩ := H9.out
      clear H9
      have hO9 : OwnR w9 w.heap.size (.slice va 2 vc) [x, x] := hO9
      have hfit : ∀ z ∈ [x, x], FitR 100000000 z.r := fun z hz => by
        obtain rfl : z = x := by simpa using hz
        rw [HXC.out.1, HTP.out.1, HTP.out.2]
        exact ru_fit which hwh recipe
      have kN := new_any [x, x] (.slice va 2 vc) w9 (HG.out.below hB9) hO9.reads (by simp) hfit
      have hrs : rs [x, x] = [ruL (tsL.getD which []) (psL.getD which []) recipe, ruL (tsL.getD which []) (psL.getD which []) recipe] := by
        show [x.r, x.r] = _
        rw [HXC.out.1, HTP.out.1, HTP.out.2]
      have hlen : ([x, x]).length = 2 := rfl
      rw [hrs, hlen, plain_2 which hwh recipe] at kN
      clear hrs hlen hfit
      have u0 := hE9.c0
      have u1 := hE9.c1
      have u2 := hE9.c2
      have u3 := hE9.c3
      have u4 := hE9.c4
      have u5 := hE9.c5
      have u6 := hE9.c6
      have HE := hide' hE9
      have HB := hide' hB9
      have hrec : ∀ b : Bool, (if b then [1] else []) = l0B 1 b := fun _ => rfl
      rw [hrec] at kN
      clear hrec
      generalize hl0 : l0B 1 recipe = l0 at kN
      have HL0 := hide' hl0
      clear hl0
      go_wp2_with fail
      refine kN.mono ?_
      rintro e w20 ⟨D, rfl, M, BG, n, rv, lv, v3, R, A, hX, hR, hA, hn, hI⟩
      dsimp only
      clear kN u0 u1 u2 u3 u4 u5 u6 hR hA
      have u0 := (HE.out.below hX.be).c0
      have HX := hide' (And.intro hX hI)
      clear hX hI
      have hW0 : w20.ownsInts w20.heap.size 3 .i64 (.slice none 0 0) (nI []) := World.ownsInts_nil _ _ _ _
      have fin : ∀ (a : Option Addr) (m c : Nat) (W : World), W.ownsInts w20.heap.size 3 .i64 (.slice a m c) (nI (l0 ++ wantP 2 which 4)) → Below w20.heap.size w20 W → Calls Tryd.prog 18 #[.pointer (some ⟨D, 0, none⟩)] W fun e w' => ∃ v', e = .returned v' ∧ w'.ownsInts W.heap.size 3 .i64 v' (nI (l0 ++ wantP 2 which 4)) ∧ Below W.heap.size W w' := fun a m c W _ hbW =>
        implicit_any D w9.heap.size rv lv _ v3 (l0 ++ wantP 2 which 4) W (HX.out.1.db.below hbW) ⟨own_below HX.out.2.1 hbW, HX.out.2.2⟩ (by have h1 : l0.length ≤ 1 := HL0.out ▸ l0_len _ _; have h2 := wantP_len 2 which 4; rw [List.length_append]; omega)
      have hBf : Below w.heap.size w w20 := HB.out.trans (HX.out.1.be.mono HB.out.size)
      cases recipe with
      | false =>
        have hl0 : l0 = [] := HL0.out.symm
        subst hl0
        have HW := hide' (And.intro hW0 (Below.refl w20.heap.size w20))
        clear hW0
        go_wp2
        clear u0
        go_loopw [15, 14] (fun i l wr => ∃ k : Nat, k ≤ 4 ∧ i = .int .i64 k ∧ wr.ownsInts w20.heap.size 3 .i64 l (nI ([] ++ wantP 2 which k)) ∧ Below w20.heap.size w20 wr) (fun i _ _ => 4 - (intOf i).toNat)
        case atStart => exact ⟨0, Nat.zero_le _, rfl, HW.out.1, HW.out.2⟩
        case round =>
          clear HW
          obtain ⟨k, hk, rfl, hO, hBk⟩ := hrel
          have hlw : ([] ++ wantP 2 which k).length ≤ 10 := by have := wantP_len 2 which k; rw [List.length_append]; simp; omega
          obtain ⟨la, lm, lc, rfl⟩ := own_form3 hO.1
          by_cases hlt : k < 4
          · have t0 : (k : Int) < 4 := by omega
            by_cases hkw : k = which
            · have t1 : ((k : Int) != (which : Int)) = false := by rw [hkw]; simp
              have hO' : wr.ownsInts w20.heap.size 3 .i64 (.slice la lm lc) (nI ([] ++ wantP 2 which (k + 1))) := by
                have e : wantP 2 which (k + 1) = wantP 2 which k := by simp [wantP, hkw]
                rw [e]
                exact hO
              have HO' := hide' (And.intro hO' hBk)
              clear hO hO' hBk hkw hlw
              go_wp2
              exact ⟨⟨k + 1, by omega, by go_num, HO'.out.1, HO'.out.2⟩, by simp [intOf]; omega⟩
            · have t1 : ((k : Int) != (which : Int)) = true := by simp; omega
              obtain ⟨xa, xm, xc, w31, hrun, hO1, hb31⟩ := app_want hO (2 + k) (by omega) (by omega) hBk (Nat.le_refl _)
              have hO' : w31.ownsInts w20.heap.size 3 .i64 (.slice xa xm xc) (nI ([] ++ wantP 2 which (k + 1))) := by
                have e : [] ++ wantP 2 which (k + 1) = ([] ++ wantP 2 which k) ++ [2 + k] := by simp [wantP, hkw]
                rw [e]
                exact hO1
              have HO' := hide' (And.intro hO' hb31)
              have e5 : ((2 + k : Nat) : Int) = 2 + (k : Int) := by omega
              rw [e5] at hrun
              clear hO hO' hBk hkw hO1 hb31 e5 hlw
              go_wp2_with (at_builtin; refine wpList_app_run rfl _ _ 46 rfl _ _ _ _ rfl rfl hrun ?_)
              exact ⟨⟨k + 1, by omega, by go_num, HO'.out.1, HO'.out.2⟩, by simp [intOf]; omega⟩
          · have hk4 : k = 4 := by omega
            have t0 : ¬ (k : Int) < 4 := by omega
            rw [hk4] at hO hlw
            have kI := fin _ _ _ wr hO hBk
            have HO' := hide' (And.intro hO hBk)
            clear hO hBk fin hk4
            go_wp2_with fail
            refine kI.mono ?_
            rintro e w32 ⟨iv, rfl, hI2, hb32⟩
            have kM := same_any _ _ iv (.slice la lm lc) ([] ++ wantP 2 which 4) w32 hI2 ⟨own_below HO'.out.1.1 hb32, HO'.out.1.2⟩ (by omega)
            obtain ⟨ja, jm, jc, rfl⟩ := own_form3 hI2.1
            dsimp only
            clear kI hI2
            go_wp2_with fail
            refine kM.mono ?_
            rintro e w33 ⟨rfl, hb33⟩
            dsimp only
            have h1 := hBf.trans (HO'.out.2.mono hBf.size)
            have h2 := h1.trans (hb32.mono h1.size)
            have h3 := h2.trans (hb33.mono h2.size)
            clear kM
            go_wp2
            go_ret
            exact ⟨rfl, h3⟩
      | true =>
        have hl0 : l0 = [1] := HL0.out.symm
        subst hl0
        obtain ⟨ga, gm, gc, w21, hrun, hO, hb21⟩ := app_want hW0 1 (by omega) (by simp) (Below.refl w20.heap.size w20) (Nat.le_refl _)
        have HW := hide' (And.intro hO hb21)
        clear hW0 hO hb21
        go_wp2_with (at_builtin; refine wpList_app_run rfl _ _ 46 rfl _ _ _ _ rfl rfl hrun ?_)
        clear hrun
        clear u0
        go_loopw [15, 14] (fun i l wr => ∃ k : Nat, k ≤ 4 ∧ i = .int .i64 k ∧ wr.ownsInts w20.heap.size 3 .i64 l (nI ([1] ++ wantP 2 which k)) ∧ Below w20.heap.size w20 wr) (fun i _ _ => 4 - (intOf i).toNat)
        case atStart => exact ⟨0, Nat.zero_le _, rfl, HW.out.1, HW.out.2⟩
        case round =>
          clear HW
          obtain ⟨k, hk, rfl, hO, hBk⟩ := hrel
          have hlw : ([1] ++ wantP 2 which k).length ≤ 10 := by have := wantP_len 2 which k; rw [List.length_append]; simp; omega
          obtain ⟨la, lm, lc, rfl⟩ := own_form3 hO.1
          by_cases hlt : k < 4
          · have t0 : (k : Int) < 4 := by omega
            by_cases hkw : k = which
            · have t1 : ((k : Int) != (which : Int)) = false := by rw [hkw]; simp
              have hO' : wr.ownsInts w20.heap.size 3 .i64 (.slice la lm lc) (nI ([1] ++ wantP 2 which (k + 1))) := by
                have e : wantP 2 which (k + 1) = wantP 2 which k := by simp [wantP, hkw]
                rw [e]
                exact hO
              have HO' := hide' (And.intro hO' hBk)
              clear hO hO' hBk hkw hlw
              go_wp2
              exact ⟨⟨k + 1, by omega, by go_num, HO'.out.1, HO'.out.2⟩, by simp [intOf]; omega⟩
            · have t1 : ((k : Int) != (which : Int)) = true := by simp; omega
              obtain ⟨xa, xm, xc, w31, hrun, hO1, hb31⟩ := app_want hO (2 + k) (by omega) (by omega) hBk (Nat.le_refl _)
              have hO' : w31.ownsInts w20.heap.size 3 .i64 (.slice xa xm xc) (nI ([1] ++ wantP 2 which (k + 1))) := by
                have e : [1] ++ wantP 2 which (k + 1) = ([1] ++ wantP 2 which k) ++ [2 + k] := by simp [wantP, hkw]
                rw [e]
                exact hO1
              have HO' := hide' (And.intro hO' hb31)
              have e5 : ((2 + k : Nat) : Int) = 2 + (k : Int) := by omega
              rw [e5] at hrun
              clear hO hO' hBk hkw hO1 hb31 e5 hlw
              go_wp2_with (at_builtin; refine wpList_app_run rfl _ _ 46 rfl _ _ _ _ rfl rfl hrun ?_)
              exact ⟨⟨k + 1, by omega, by go_num, HO'.out.1, HO'.out.2⟩, by simp [intOf]; omega⟩
          · have hk4 : k = 4 := by omega
            have t0 : ¬ (k : Int) < 4 := by omega
            rw [hk4] at hO hlw
            have kI := fin _ _ _ wr hO hBk
            have HO' := hide' (And.intro hO hBk)
            clear hO hBk fin hk4
            go_wp2_with fail
            refine kI.mono ?_
            rintro e w32 ⟨iv, rfl, hI2, hb32⟩
            have kM := same_any _ _ iv (.slice la lm lc) ([1] ++ wantP 2 which 4) w32 hI2 ⟨own_below HO'.out.1.1 hb32, HO'.out.1.2⟩ (by omega)
            obtain ⟨ja, jm, jc, rfl⟩ := own_form3 hI2.1
            dsimp only
            clear kI hI2
            go_wp2_with fail
            refine kM.mono ?_
            rintro e w33 ⟨rfl, hb33⟩
            dsimp only
            have h1 := hBf.trans (HO'.out.2.mono hBf.size)
            have h2 := h1.trans (hb32.mono h1.size)
            have h3 := h2.trans (hb33.mono h2.size)
            clear kM
            go_wp2
            go_ret
            exact ⟨rfl, h3⟩
end Go.Proofs.YtkmedgdpcifnoaaDoor
