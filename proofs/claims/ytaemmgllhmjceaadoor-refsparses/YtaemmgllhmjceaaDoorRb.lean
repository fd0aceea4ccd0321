/- The contracts of anvilref10.Bounds and anvilref10.Funcs. -/
import Derived.Test.YtaemmgllhmjceaaDoorFuns
import Derived.Test.YtaemmgllhmjceaaDoorBd
namespace Go.Proofs.YtaemmgllhmjceaaDoor
open Go.RowKit

set_option maxRecDepth 100000 in
set_option maxHeartbeats 2000000 in
theorem rbounds_any (s : ByteArray) (w : World) :
    Calls Tryd.prog 19 #[.string s] w fun e w' => e = .returned (.tuple #[.int .i64 (fnF (fnd (tl s))).2.1, .int .i64 (fnF (fnd (tl s))).2.2]) ∧ Below w.heap.size w w' := by
  have kF := funs_any w
  have hB : Below w.heap.size w (w.alloc (.cells (flatF fnL).toArray 63)) := (Below.refl _ w).alloc (Nat.le_refl _) _
  have hA : FnsAt (w.alloc (.cells (flatF fnL).toArray 63)) w.heap.size := FnsAt.of_cells (heap_alloc_new w _)
  generalize w.alloc (.cells (flatF fnL).toArray 63) = W at kF hB hA
  go_enter Tryd.func19, Tryd.ntmps19
  go_wp2_with (go_at_call 30; refine kF.mono ?_; rintro e w1 ⟨rfl, rfl⟩)
  go_loopw [5] (fun i wr => ∃ k : Nat, k ≤ 34 ∧ i = .int .i64 k ∧ wr = w1 ∧ Hid (∀ j, j < k → ¬ (fnAt j).1 = tl s)) (fun i _ => 34 - (intOf i).toNat)
  case atStart => exact ⟨0, Nat.zero_le _, rfl, rfl, fun j hj => absurd hj (Nat.not_lt_zero j)⟩
  case round =>
    obtain ⟨k, hk, rfl, rfl, HI⟩ := hrel
    clear kF
    by_cases hlt : k < 34
    · have c0 := hA.name k hlt
      have c1 := hA.least k hlt
      have c2 := hA.most k hlt
      by_cases h1 : (fnAt k).1 = tl s
      · have d1 : ((nmA k).toList == s.toList) = true := by rw [str_eq, tl_nm]; exact decide_eq_true h1
        have HR : Hid (fnd (tl s) = some (fnAt k)) := fnd_yes _ k hlt h1
        clear HI h1 hA
        go_wp2
        go_quiet (fail)
        go_wp2
        go_ret2
        rw [HR.out]
        exact ⟨rfl, hB.trans (below_drewn _)⟩
      · have d1 : ((nmA k).toList == s.toList) = false := by rw [str_eq, tl_nm]; exact decide_eq_false h1
        have HI' : Hid (∀ j, j < k + 1 → ¬ (fnAt j).1 = tl s) := fun j hj => by
          by_cases hjk : j = k
          · subst hjk; exact h1
          · exact HI.out j (by omega)
        clear HI h1 hA c1 c2
        go_wp2
        exact ⟨⟨k + 1, by omega, by go_num, trivial, HI'⟩, by simp [intOf]; omega⟩
    · have HR : Hid (fnd (tl s) = none) := fnd_no _ fun j hj => HI.out j (by omega)
      clear HI hA
      go_wp2
      go_ret2
      rw [HR.out]
      exact ⟨rfl, hB⟩
theorem cell_one_new (W : World) (x : Value) (t : TypeId) : ∀ j u, [x][j]? = some u → (W.alloc (.cells #[x] t)).cell? ((⟨W.heap.size, 0, none⟩ : Addr).add j) = some u := by
  intro j u hj
  rw [Addr.add_lit, Nat.zero_add, Lib.cell_of_heap (heap_alloc_new W _)]
  match j, hj with
  | 0, hj => exact hj
/-- behind an append onto a row of the call's own -/
theorem app_below {w W w1 : World} {base e size : Nat} {v : Value} {k : Nat} {xs : List Value} {tmp : Obj} (hB : Below base w W) (hbase : base ≤ W.heap.size) (hrow : W.ownsRow base e size v k xs) (hgrow : (W.alloc tmp).grownBy w1 v.ownBlock) : Below base w w1 := by
  refine (hB.alloc hbase tmp).grown hgrow (by simp; omega) fun j ej => own_low hrow j ej
theorem range_more (k : Nat) (f : Nat → Value) : (List.range (k + 1)).map f = (List.range k).map f ++ [f k] := by rw [List.range_succ, List.map_append]; rfl
set_option maxRecDepth 100000 in
set_option maxHeartbeats 2000000 in
theorem rfuncs_any (w : World) :
    Calls Tryd.prog 16 #[] w fun e w' => ∃ v, e = .returned v ∧ w'.ownsRow w.heap.size 9 1 v 34 nmV ∧ Below w.heap.size w w' := by
  obtain ⟨i0, hi, hz0, hz1, hz2⟩ := info_parts info9
  have kF := funs_any w
  have hB : Below w.heap.size w (w.alloc (.cells (flatF fnL).toArray 63)) := (Below.refl _ w).alloc (Nat.le_refl _) _
  have hA : FnsAt (w.alloc (.cells (flatF fnL).toArray 63)) w.heap.size := FnsAt.of_cells (heap_alloc_new w _)
  generalize w.alloc (.cells (flatF fnL).toArray 63) = W at kF hB hA
  go_enter Tryd.func16, Tryd.ntmps16
  go_wp2_with (go_at_call 30; refine kF.mono ?_; rintro e w1 ⟨rfl, rfl⟩)
  go_loopw [2, 3] (fun o i wr => ∃ k : Nat, k ≤ 34 ∧ i = .int .i64 k ∧ wr.ownsRow w1.heap.size 9 1 o k ((List.range k).map fun j => Value.string (nmA j)) ∧ Below w1.heap.size w1 wr) (fun _ i _ => 34 - (intOf i).toNat)
  case atStart => exact ⟨0, Nat.zero_le _, rfl, World.ownsRow_nil _ _ _ _, Below.refl _ _⟩
  case round =>
    obtain ⟨k, hk, rfl, hrow, hB1⟩ := hrel
    clear kF
    have hs1 := hB.size
    have hs2 := hB1.size
    by_cases hlt : k < 34
    · have c0 := (hA.below hB1).name k hlt
      have hpb : k + 1 ≤ maxLen := by unfold maxLen; omega
      have hbb : (k + 1) * 16 ≤ 140737488355328 := by omega
      have h2b : ∀ o, w1.heap.size ≤ (wr.alloc o).heap.size := fun o => by simp; omega
      go_wp2_with (at_builtin; refine wpList_append_own _ rfl _ _ 28 rfl w1.heap.size 9 i0 (.string ⟨#[]⟩) 1 16 Tryd.underlying28 hi hz0 hz1 hz2 rfl (by decide) _ _ _ rfl (hrow.alloc _) ⟨wr.heap.size, 0, none⟩ 1 1 [.string (nmA k)] rfl rfl (cell_one_new _ _ _) (by simp [Value.oneCell']) hpb hbb (h2b _) ?_; intro v' w2 hown' hgrow _)
      have hB2 := app_below hB1 hs2 hrow hgrow
      exact ⟨⟨k + 1, by omega, by go_num, by rw [range_more]; exact hown', hB2⟩, by simp [intOf]; omega⟩
    · obtain rfl : k = 34 := by omega
      go_wp2
      go_ret
      exact ⟨_, rfl, own_mono hrow hs1, hB.trans (hB1.mono hs1)⟩
end Go.Proofs.YtaemmgllhmjceaaDoor
