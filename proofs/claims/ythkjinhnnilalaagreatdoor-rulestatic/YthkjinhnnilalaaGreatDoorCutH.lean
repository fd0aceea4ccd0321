/- The contracts of rule.cut where the first word ends in its colon, of rule.settleStatic where the last target does not match, and of rule.settlePattern. -/
import Derived.Test.YthkjinhnnilalaaGreatDoorSet
namespace Go.Proofs.YthkjinhnnilalaaGreatDoor
open Go.RowKit Go.Shelf

theorem app_one (b off g : Nat) (p : ByteArray) (W : World) (hg : W.cell? ⟨g, 0, none⟩ = some (.string p)) : ∃ cp cs, (∀ ty : TypeId, (Builtin.append_ #[22, 22] ty #[.slice (some ⟨b, off, none⟩) 0 0, .slice (some ⟨g, 0, none⟩) 1 1]).run Tryz.prog W = .ok (.slice (some ⟨W.heap.size, 0, none⟩) 1 cp) (W.drew.alloc (.cells cs 9))) ∧ cs[0]? = some (.string p) := by
  obtain ⟨i0, hi, hz0, hz1, hz2⟩ := info_parts info9
  have hS : Src Tryz.prog i0.size 22 (.slice (some ⟨g, 0, none⟩) 1 1) 1 [.string p] W := Src.ofSlice W Tryz.underlying22 ⟨g, 0, none⟩ 1 1 [.string p] (by rw [hz1]; rfl) (fun j u h => by
    have hj : j = 0 := by
      have := (List.getElem?_eq_some_iff.1 h).1
      simp at this
      exact this
    subst hj
    simp at h
    subst h
    rw [Addr.add_lit]
    exact hg) (fun u hu => by rw [List.mem_singleton] at hu; rw [hu]; rfl)
  have h9 := fun ty => run_append_grow_src (P := Tryz.prog) (w := W) 22 22 ty 9 i0 (.string ⟨#[]⟩) Tryz.underlying22 hi hz0 (some ⟨b, off, none⟩) 0 0 [] (run_firstCells_some W.drew i0.size 0 ⟨b, off, none⟩ 0 0 [] (by simp) (fun j u h => by simp at h)) (.slice (some ⟨g, 0, none⟩) 1 1) 1 [.string p] hS (by omega) (by decide) (by rw [hz2]; decide)
  refine ⟨_, _, h9, ?_⟩
  simp [Array.getElem?_append]
/-- an append whose run is known -/
theorem wp_app_run {P : Program} {w : World} {o : Oper} {a : Act} {K : Act → World → Prop} {Q : Exit → Act → World → Prop} (s x : Operand) (t : TypeId)
    (ho : o.op = .call { callee := .builtin .append, args := #[s, x], argTypes := #[t, t] }) (v x' v' : Value) (w' : World) (hs : a.eval s = v) (hx : a.eval x = x')
    (hr : ∀ ty : TypeId, (Builtin.append_ #[t, t] ty #[v, x']).run P w = .ok v' w') (h : K (a.put o.dst v') w') : o.wp P a w K Q := by
  unfold Oper.wp execOp
  simp only [ho, resolve, invoke, builtin, Sem.run_bind, Sem.run_pure, Result.andThen_ok, List.map_toArray, List.map_cons, List.map_nil, hs, hx, hr]
  exact h
set_option maxRecDepth 100000 in
set_option maxHeartbeats 4000000 in
/-- cut, where the first word is a text and its colon -/
theorem cut_head (L : List ByteArray) (b off cap : Nat) (W0 : World) (hl : L.length ≤ 100000) (hcap : L.length ≤ cap) (hc : ∀ j, j < L.length → W0.cell? ⟨b, off + j, none⟩ = some (.string (L.getD j ⟨#[]⟩))) (hin : 1 < L.length) (x p : ByteArray) (hx0 : L.getD 0 ⟨#[]⟩ = x) (hxs : x.size ≤ 1000000) (hxn : nbr (tl x)) (hm : p.size < x.size) (hxi : Lib.indexByte (tl x) 58 = (p.size : Nat)) (hp : x.extract 0 p.size = p) (he : x.extract (p.size + 1) x.size = ⟨#[]⟩) (hpe : p.toList.isEmpty = false) :
    Calls Tryz.prog 47 #[.slice (some ⟨b, off, none⟩) L.length cap] W0 fun e w' => ∃ ga ca vb, e = .returned (.tuple #[.slice (some ⟨ga, 0, none⟩) 1 ca, vb, .bool true]) ∧ w'.cell? ⟨ga, 0, none⟩ = some (.string p) ∧ ga < w'.heap.size ∧ w'.ownsRow W0.heap.size 9 1 vb (L.length - 1) ((L.drop 1).map Value.string) ∧ Below W0.heap.size W0 w' := by
  obtain ⟨i0, hi, hz0, hz1, hz2⟩ := info_parts info9
  have k1 := fun w => has40_no x w hxn
  have k2 := fun w => cuts_yes 58 x p.size w hxs hm hxi
  rw [hp, he] at k2
  have kOne := fun w => some_one p hpe w
  have cc := hc 0 (by omega)
  rw [hx0] at cc
  clear hp he hpe hxi hxn hm hx0
  go_enter Tryz.func47, Tryz.ntmps47
  go_wp2
  go_loopw [12] (fun y wr => ∃ k : Nat, y = .int .i64 k ∧ Hid (k = 0) ∧ wr = W0) (fun y _ => 0)
  case atStart => exact ⟨0, rfl, rfl, rfl⟩
  case round =>
    obtain ⟨k, rfl, HZ, hwr⟩ := hrel
    rw [hwr]
    clear hwr
    · have HC := hide' hc
      have HL := hide' hl
      have HCP := hide' hcap
      have HN := hide' hin
      have hlt : k < L.length := by have := HZ.out; omega
      have cc : W0.cell? ⟨b, off + k, none⟩ = some (.string x) := by rw [HZ.out]; exact cc
      clear hc hl hcap hin
      go_wp2_with (first | (go_at_call 65; refine (k1 _).mono ?_; rintro e w1 ⟨rfl, rfl⟩) | (go_at_call 22; refine (k2 _).mono ?_; rintro e w2 ⟨rfl, q2, hw2⟩; have HW2 := hide' hw2; clear hw2))
      have hB2 : Below w1.heap.size w1 w2 := by rw [HW2.out]; exact below_drewn q2
      have hc2 : ∀ j, j < L.length → w2.cell? ⟨b, off + j, none⟩ = some (.string (L.getD j ⟨#[]⟩)) := fun j hj => by rw [HW2.out]; exact HC.out j hj
      have HC2 := hide' hc2
      clear hc2
      have hcK := HCP.out
      have hsl3 := sls_to ⟨b, off, none⟩ L.length cap k (by omega) hcK
      have hslf := sls_from b off L.length cap (k + 1) (by have := HN.out; have := HZ.out; omega) hcK (by have := HN.out; have := HZ.out; omega)
      rw [show ((k + 1 : Nat) : Int) = (k : Int) + 1 by omega] at hslf
      have hwk : IntKind.i64.wrap ((k : Int) + 1) = (k : Int) + 1 := i64_id _ ⟨by have := HL.out; omega, by have := HL.out; omega⟩
      have kNil := some_nil
      clear hcK
      refine wp_region_classX [] (C := TrC) (by kernel_rfl) ?_
      (refine wpAnyX_take (i := 0) (v := ?_) (tr_c _) rfl (by kernel_rfl) (by kernel_rfl) (by kernel_rfl) (by kernel_rfl) (fun _ _ _ h => h) (Or.inl ⟨by kernel_rfl, ?_⟩) ?_; rotate_left; (intro w hc; clear hc; go_simp; try with_reducible rfl))
      go_simp
      (refine wpAnyX_take (i := 1) (v := ?_) (tr_c _) rfl (by kernel_rfl) (by kernel_rfl) (by kernel_rfl) (by kernel_rfl) (fun _ _ _ h => h) (Or.inl ⟨by kernel_rfl, ?_⟩) ?_; rotate_left; (intro w hc; clear hc; go_simp; try with_reducible rfl))
      go_simp
      (refine wpAnyX_take (i := 2) (v := ?_) (tr_c _) rfl (by kernel_rfl) (by kernel_rfl) (by kernel_rfl) (by kernel_rfl) (fun _ _ _ h => h) (Or.inl ⟨by kernel_rfl, ?_⟩) ?_; rotate_left; (intro w hc; clear hc; go_simp; try with_reducible rfl))
      go_simp
      (refine wpAnyX_take (i := 3) (v := ?_) (tr_c _) rfl (by kernel_rfl) (by kernel_rfl) (by kernel_rfl) (by kernel_rfl) (fun _ _ _ h => h) (Or.inl ⟨by kernel_rfl, ?_⟩) ?_; rotate_left; (intro w hc; clear hc; go_simp; try with_reducible rfl))
      go_simp
      (refine wpAnyX_take (i := 4) (v := ?_) (tr_c _) rfl (by kernel_rfl) (by kernel_rfl) (by kernel_rfl) (by kernel_rfl) (fun _ _ _ h => h) (Or.inl ⟨by kernel_rfl, ?_⟩) ?_; rotate_left; (intro w hc; clear hc; go_simp; try with_reducible rfl))
      go_simp
      refine wpAnyX_one (i := 5) (by kernel_rfl) (wpOp_wanted rfl (by rfl) ?_)
      go_simp
      refine (kOne _).mono ?_
      rintro e w3 ⟨rfl, hw3⟩
      have hcg : w3.cell? ⟨w2.heap.size, 0, none⟩ = some (.string p) := by
        have h8 := heap_alloc_new w2.drew (.cells #[.string p] 9)
        rw [show w2.drew.heap.size = w2.heap.size from rfl, ← hw3] at h8
        rw [Lib.cell_of_heap h8]
        rfl
      have hBo : Below w2.heap.size w2 w3 := by
        have := (Below.refl w2.heap.size w2).alloc (Nat.le_refl _) (.cells #[.string p] 9)
        rw [hw3]
        exact ⟨this.os, this.tape, this.output, this.size, this.block⟩
      (first | refine ⟨fun _ => tr_c _, ?_⟩ | refine ⟨tr_c _, ?_⟩)
      obtain ⟨cp, cs, hap, hcs⟩ := app_one b off w2.heap.size p w3 hcg
      have hap : ∀ ty : TypeId, (Builtin.append_ #[22, 22] ty #[.slice (some ⟨b, off, none⟩) k k, .slice (some ⟨w2.heap.size, 0, none⟩) 1 1]).run Tryz.prog w3 = .ok (.slice (some ⟨w3.heap.size, 0, none⟩) 1 cp) (w3.drew.alloc (.cells cs 9)) := by rw [HZ.out]; exact hap
      have hB7 : Below w3.heap.size w3 (w3.drew.alloc (.cells cs 9)) := by
        have := (Below.refl w3.heap.size w3).alloc (Nat.le_refl _) (.cells cs 9)
        exact ⟨this.os, this.tape, this.output, this.size, this.block⟩
      have hc7 : (w3.drew.alloc (.cells cs 9)).cell? ⟨w3.heap.size, 0, none⟩ = some (.string p) := by
        have h8 := heap_alloc_new w3.drew (.cells cs 9)
        rw [show w3.drew.heap.size = w3.heap.size from rfl] at h8
        rw [Lib.cell_of_heap h8]
        exact hcs
      generalize w3.drew.alloc (.cells cs 9) = W7 at hap hB7 hc7
      generalize hga : w3.heap.size = ga at hap hc7
      have HGA := hide' hga
      have HC7 := hide' hc7
      have HB7 := hide' hB7
      have HBO := hide' hBo
      have HW3 := hide' hw3
      clear hc7 hB7 hBo hw3 hcg hga hcs hsl3
      refine wpAnyX_one (i := 6) (by kernel_rfl) (wpOp_wanted rfl (by rfl) ?_)
      refine wp_app_run _ _ 22 rfl _ _ _ _ rfl rfl hap ?_
      go_simp
      (first | refine ⟨fun _ => tr_c _, ?_⟩ | refine ⟨tr_c _, ?_⟩)
      refine wpAnyX_one (i := 7) (by kernel_rfl) (wpOp_wanted rfl (by rfl) ?_)
      go_simp
      (first | refine ⟨fun _ => tr_c _, ?_⟩ | refine ⟨tr_c _, ?_⟩)
      refine wpAnyX_done (by kernel_rfl) ?_ _
      go_wp2_with fail
      have hBA : Below w1.heap.size w1 W7 := by
        have h1 := hB2.trans (HBO.out.mono hB2.size)
        exact h1.trans (HB7.out.mono h1.size)
      have hBB : Below w2.heap.size w2 W7 := HBO.out.trans (HB7.out.mono HBO.out.size)
      have hbl2 : ∀ j, j < L.length → W7.drew.cell? ⟨b, off + j, none⟩ = some (.string (L.getD j ⟨#[]⟩)) := fun j hj => by
        have h1 := HC2.out j hj
        exact (hBB.cell (p := ⟨b, off + j, none⟩) (World.block_lt_of_cell? _ _ h1)).trans h1
      have HC5 := hide' hbl2
      have hB5 : Below w1.heap.size w1 W7.drew := ⟨hBA.os, hBA.tape, hBA.output, hBA.size, hBA.block⟩
      have hgl : ga < W7.heap.size := World.block_lt_of_cell? _ _ HC7.out
      clear hbl2 hap
      refine wp_region_classX [] (C := TrC) (by kernel_rfl) ?_
      (refine wpAnyX_take (i := 0) (v := ?_) (tr_c _) rfl (by kernel_rfl) (by kernel_rfl) (by kernel_rfl) (by kernel_rfl) (fun _ _ _ h => h) (Or.inl ⟨by kernel_rfl, ?_⟩) ?_; rotate_left; (intro w hc; clear hc; go_simp; try with_reducible rfl))
      go_simp
      (refine wpAnyX_take (i := 2) (v := ?_) (tr_c _) rfl (by kernel_rfl) (by kernel_rfl) (by kernel_rfl) (by kernel_rfl) (fun _ _ _ h => h) (Or.inl ⟨by kernel_rfl, ?_⟩) ?_; rotate_left; (intro w hc; clear hc; go_simp; try with_reducible rfl))
      go_simp
      (refine wpAnyX_take (i := 3) (v := ?_) (tr_c _) rfl (by kernel_rfl) (by kernel_rfl) (by kernel_rfl) (by kernel_rfl) (fun _ _ _ h => h) (Or.inl ⟨by kernel_rfl, ?_⟩) ?_; rotate_left; (intro w hc; clear hc; go_simp; try with_reducible rfl))
      go_simp
      (refine wpAnyX_take (i := 4) (v := ?_) (tr_c _) rfl (by kernel_rfl) (by kernel_rfl) (by kernel_rfl) (by kernel_rfl) (fun _ _ _ h => h) (Or.inl ⟨by kernel_rfl, ?_⟩) ?_; rotate_left; (intro w hc; clear hc; go_simp; try with_reducible rfl))
      go_simp
      (refine wpAnyX_take (i := 5) (v := ?_) (tr_c _) rfl (by kernel_rfl) (by kernel_rfl) (by kernel_rfl) (by kernel_rfl) (fun _ _ _ h => h) (Or.inl ⟨by kernel_rfl, ?_⟩) ?_; rotate_left; (intro w hc; clear hc; go_simp; try with_reducible rfl))
      go_simp
      refine wpAnyX_one (i := 1) (by kernel_rfl) (wpOp_wanted rfl (by rfl) ?_)
      go_simp
      refine (kNil _).mono ?_
      rintro e w5 ⟨rfl, rfl⟩
      (first | refine ⟨fun _ => tr_c _, ?_⟩ | refine ⟨tr_c _, ?_⟩)
      have hnw := tail_news HC5.out (k + 1)
      have HLL := HL.out
      have HCC := HCP.out
      have HNN := HN.out
      refine wpAnyX_one (i := 6) (by kernel_rfl) (wpOp_wanted rfl (by rfl) ?_)
      refine wp_append_own _ _ _ 22 rfl w1.heap.size 9 i0 (.string ⟨#[]⟩) 1 16 Tryz.underlying22 hi hz0 hz1 hz2 rfl (by decide) (.slice none 0 0) 0 [] rfl (World.ownsRow_nil _ _ _ _) ⟨b, off + (k + 1), none⟩ (L.length - (k + 1)) (cap - (k + 1)) ((L.drop (k + 1)).map Value.string) rfl (by simp) hnw (fun u hu => by obtain ⟨y, _, rfl⟩ := List.mem_map.1 hu; rfl) (by unfold maxLen; omega) (by omega) hB5.size ?_
      intro v6 w6 hown6 hgrow6 hif6
      clear hif6
      (first | refine ⟨fun _ => tr_c _, ?_⟩ | refine ⟨tr_c _, ?_⟩)
      have hB6 : Below w1.heap.size w1 w6 := hB5.grown hgrow6 hB5.size fun j ej => by cases ej
      have hg6 : w6.cell? ⟨ga, 0, none⟩ = some (.string p) := by
        have h1 : W7.drew.cell? ⟨ga, 0, none⟩ = some (.string p) := HC7.out
        have h2 := hgrow6.block ga hgl (by simp [Value.ownBlock])
        rw [← h1]
        exact cell_of_block (p := ⟨ga, 0, none⟩) h2
      have HO6 := hide' hown6
      have HG6 := hide' hg6
      obtain ⟨a6, c6, rfl⟩ := row_form hown6
      clear hown6 hgrow6 hnw HLL HCC HNN hg6
      refine wpAnyX_one (i := 7) (by kernel_rfl) (wpOp_wanted rfl (by rfl) ?_)
      go_simp
      (first | refine ⟨fun _ => tr_c _, ?_⟩ | refine ⟨tr_c _, ?_⟩)
      refine wpAnyX_done (by kernel_rfl) ?_ _
      go_wp2
      go_ret3
      have hz := HZ.out
      subst hz
      refine ⟨ga, cp, _, rfl, HG6.out, World.block_lt_of_cell? _ _ HG6.out, ?_, hB6⟩
      have := HO6.out
      rw [Nat.zero_add, List.nil_append] at this
      exact this
end Go.Proofs.YthkjinhnnilalaaGreatDoor
