/- The contract of the reference's Set where the variable is not there yet. -/
import Derived.Test.YtillechackcbpaaRs
namespace Go.Proofs.Ytillechackcbpaa
open Go.RowKit Go.Maps

theorem i64_id (n : Int) (h : -9223372036854775808 ≤ n ∧ n ≤ 9223372036854775807) : IntKind.i64.wrap n = n := by rw [IntKind.wrap_i64]; omega
theorem app_rb {w2 w3 : World} {R : Nat} {v : Value} {L : Vs} (h : Rf w2 R v L) {x : Obj} (hg : (w2.alloc x).grownBy w3 v.ownBlock) : Rb w3 R v := by
  have hl := lt_of_block h.rb
  refine (hg.block R (by rw [World.size_alloc]; omega) fun e => h.ne R e.symm rfl).trans ((Below.heap_alloc _ _ _ hl).trans h.rb)
theorem vown_len {w : World} {v : Value} {vs : List Vr} {z : Vr} {n : Nat} (h : VOwn w v (vs ++ [z])) (hn : vs.length = n) : ∃ a c, v = .slice a (n + 1) c := by
  obtain ⟨a, c, e⟩ := h.len
  rw [List.length_append, hn] at e
  exact ⟨a, c, e⟩
set_option maxRecDepth 100000 in
set_option maxHeartbeats 4000000 in
theorem rset_new (R : Nat) (v : Value) (L : Vs) (p u : Bs) (f o : Int) (w : World) (h : Rf w R v L) (hf : fnd L p = none) (hc : L.length < 1000) :
    Calls Try.prog 17 #[.pointer (some ⟨R, 0, none⟩), .string (mk p), .string (mk u), .int .i64 f, .int .i64 o] w fun r w' => r = .returned (.bool true) ∧ ∃ v', RChg w w' R v v' (put L p ⟨p, u, f, o, 0⟩) := by
  have q := rat_any R v L p w h
  rw [hf] at q
  dsimp only [Option.isSome] at q
  obtain ⟨va, vc, hv⟩ := h.row.len
  rw [List.length_map] at hv
  subst hv
  have H := hide' h
  clear h
  have hc1 : ¬ (1000 : Int) ≤ L.length := by omega
  obtain ⟨vs, hvs⟩ : ∃ vs, vs = L.map (·.2) := ⟨_, rfl⟩
  have hvl : vs.length = L.length := by rw [hvs, List.length_map]
  go_enter Try.func17, Try.ntmps17
  go_wp2_with fail
  refine q.mono ?_
  rintro r w2 ⟨k, rfl, hk, hb2⟩
  have hr2 := H.out.below hb2
  have hR2 := hr2.rb
  have c0 := hR2.c0
  have hrow2 := hr2.row
  rw [← hvs] at hrow2
  have hb3 : ∀ x, Below w2.heap.size w2 (w2.alloc x) := fun x => below_alloc (Below.refl _ _) (Nat.le_refl _) x
  have HO : Hid (∀ x, VOwn (w2.alloc x) (.slice va L.length vc) vs) := fun x => hrow2.kept fun g hg => (hb3 x).block g (hrow2.lt g hg)
  have HS : Hid (VSrc (w2.alloc (.cells #[.string ⟨#[]⟩, .string ⟨#[]⟩, .int .i64 0, .int .i64 0, .int .i64 0] 36)) (.slice (some ⟨w2.heap.size, 0, none⟩) 1 1) [zeroVr]) := .inr ⟨_, _, rfl, fun j x hj => by
    rw [add_zero, Lib.cell_of_heap (heap_alloc_new _ _)]
    have e1 : flatV [zeroVr] = cellsV zeroVr := by simp [flatV]
    rw [e1] at hj
    simpa [cellsV, zeroVr] using hj⟩
  have c1 : ∀ x, (w2.alloc x).cell? ⟨R, 0, none⟩ = some (.slice va L.length vc) := fun x => ((hb3 x).cell (p := ⟨R, 0, none⟩) (lt_of_block hR2)).trans c0
  have HR2 := hide' hr2
  have HB2 := hide' hb2
  have HK := hide' hk
  have HF := hide' hf
  have HV := hide' hvs
  have HB3 := hide' hb3
  clear hb2 q hk hf hr2 hR2 hrow2 hvs hb3
  go_wp2_with (at_builtin; refine wpList_plain rfl fun _ hK => ?_; refine wp_append28 (v := .slice va L.length vc) (x := .slice (some ⟨w2.heap.size, 0, none⟩) 1 1) (xs := vs) (ys := [zeroVr]) _ _ _ rfl rfl rfl (HO.out _) HS.out (by simp; omega) ?_; intro v3 w3 ho3 hg3 hat3; obtain ⟨a3, c3, rfl⟩ := vown_len ho3 hvl; have hR3 := app_rb HR2.out hg3; have f3 := hR3.c0; have z3 := Lib.frozen_of_heap hR3 0; refine hK _ _ ?_; clear hK)
  have hnR : ∀ g, (Value.slice a3 (L.length + 1) c3).ownBlock = some g → g ≠ R := fun g hg e => by
    obtain ⟨cur, hcur⟩ := ho3.elem g hg
    unfold Rb at hR3
    rw [e, hR3] at hcur
    simp at hcur
  obtain ⟨w4, hw4⟩ : ∃ w4, w4 = w3.setCell ⟨R, 0, none⟩ (.slice a3 (L.length + 1) c3) := ⟨_, rfl⟩
  have hR4 : Rb w4 R (.slice a3 (L.length + 1) c3) := by rw [hw4]; exact set_row hR3 0 _
  have ho4 : VOwn w4 (.slice a3 (L.length + 1) c3) (vs ++ [zeroVr]) := by rw [hw4]; exact ho3.kept fun g hg => Below.heap_setCell _ _ _ _ (by simpa using hnR g hg)
  have hown4 : ∀ g, (Value.slice a3 (L.length + 1) c3).ownBlock = some g → (Value.slice va L.length vc).ownBlock = some g ∨ w2.heap.size ≤ g := fun g hg => by
    rcases hat3 with e | e
    · rw [e] at hg; exact .inl hg
    · rw [e] at hg; cases hg; right; rw [World.size_alloc]; omega
  have hT4 : Turn (fun j => j = R ∨ (Value.slice va L.length vc).ownBlock = some j) w2 w4 := by
    rw [hw4]
    exact (((Turn.refl _ w2).alloc _).trans' (Turn.of_grown hg3 fun g e => .inr e)).setCell (.inl (.inl rfl)) _
  have hkl : k ≤ vs.length := by rw [hvl]; exact HK.out.le
  have ho4d : VOwn w4.drew (.slice a3 (L.length + 1) c3) (vs ++ [zeroVr]) := ho4.kept fun _ _ => rfl
  obtain ⟨xa, xm, xc, ya, ym, yc, hx, hy, cc, w5, uu, hcp, ho5, hg5⟩ := copy_shift ho4d hkl 3
  have hC4 : w4.drew.cell? ⟨R, 0, none⟩ = some (.slice a3 (L.length + 1) c3) := hR4.c0
  rw [← hw4]
  have HT4 := hide' hT4
  have HR4 := hide' hR4
  have HN := hide' hown4
  have HNR := hide' hnR
  clear hw4 hg3 ho3 hat3 f3 z3 hR3 c0 c1 HO HS ho4 ho4d hT4 hR4 hown4 hnR
  have hwr : IntKind.i64.wrap ((k : Int) + 1) = (k : Int) + 1 := i64_id _ (by omega)
  go_wp2
  refine wp_region_classX [13] (C := fun W => W.cell? ⟨R, 0, none⟩ = some (.slice a3 (L.length + 1) c3)) (by kernel_rfl) ?_
  (refine wpAnyX_take (i := 0) (v := ?_) hC4 rfl (by kernel_rfl) (by kernel_rfl) (by kernel_rfl) (by kernel_rfl) (fun _ _ _ h => h) (Or.inl ⟨by kernel_rfl, ?_⟩) ?_; rotate_left; (intro w hc; have k0 := hc; clear hc; go_simp; try with_reducible rfl))
  (refine wpAnyX_take (i := 1) (v := ?_) hC4 rfl (by kernel_rfl) (by kernel_rfl) (by kernel_rfl) (by kernel_rfl) (fun _ _ _ h => h) (Or.inl ⟨by kernel_rfl, ?_⟩) ?_; rotate_left; (intro w hc; have k0 := hc; clear hc; go_simp; try with_reducible rfl))
  (refine wpAnyX_take (i := 2) (v := ?_) hC4 rfl (by kernel_rfl) (by kernel_rfl) (by kernel_rfl) (by kernel_rfl) (fun _ _ _ h => h) (Or.inl ⟨by kernel_rfl, ?_⟩) ?_; rotate_left; (intro w hc; have k0 := hc; clear hc; go_simp; try with_reducible rfl))
  (refine wpAnyX_take (i := 3) (v := ?_) hC4 rfl (by kernel_rfl) (by kernel_rfl) (by kernel_rfl) (by kernel_rfl) (fun _ _ _ h => h) (Or.inl ⟨by kernel_rfl, ?_⟩) ?_; rotate_left; (intro w hc; have k0 := hc; clear hc; go_simp; try with_reducible rfl))
  (refine wpAnyX_take (i := 4) (v := ?_) hC4 rfl (by kernel_rfl) (by kernel_rfl) (by kernel_rfl) (by kernel_rfl) (fun _ _ _ h => h) (Or.inl ⟨by kernel_rfl, ?_⟩) ?_; rotate_left; (intro w hc; have k0 := hc; clear hc; go_simp; try with_reducible rfl))
  go_simp
  (refine wpAnyX_take (i := 5) (v := ?_) hC4 rfl (by kernel_rfl) (by kernel_rfl) (by kernel_rfl) (by kernel_rfl) (fun _ _ _ h => h) (Or.inl ⟨by kernel_rfl, ?_⟩) ?_; rotate_left; (intro w hc; have k0 := hc; clear hc; go_simp; try with_reducible rfl))
  (refine wpAnyX_take (i := 6) (v := ?_) hC4 rfl (by kernel_rfl) (by kernel_rfl) (by kernel_rfl) (by kernel_rfl) (fun _ _ _ h => h) (Or.inl ⟨by kernel_rfl, ?_⟩) ?_; rotate_left; (intro w hc; have k0 := hc; clear hc; go_simp; try with_reducible rfl))
  (refine wpAnyX_take (i := 7) (v := ?_) hC4 rfl (by kernel_rfl) (by kernel_rfl) (by kernel_rfl) (by kernel_rfl) (fun _ _ _ h => h) (Or.inl ⟨by kernel_rfl, ?_⟩) ?_; rotate_left; (intro w hc; have k0 := hc; clear hc; go_simp; try with_reducible rfl))
  (refine wpAnyX_take (i := 8) (v := ?_) hC4 rfl (by kernel_rfl) (by kernel_rfl) (by kernel_rfl) (by kernel_rfl) (fun _ _ _ h => h) (Or.inl ⟨by kernel_rfl, ?_⟩) ?_; rotate_left; (intro w hc; have k0 := hc; clear hc; go_simp; try with_reducible rfl))
  go_simp
  (refine wpAnyX_take (i := 9) (v := ?_) hC4 rfl (by kernel_rfl) (by kernel_rfl) (by kernel_rfl) (by kernel_rfl) (fun _ _ _ h => h) (Or.inl ⟨by kernel_rfl, ?_⟩) ?_; rotate_left; (intro w hc; have k0 := hc; clear hc; go_simp; try with_reducible rfl))
  (refine wpAnyX_take (i := 10) (v := ?_) hC4 rfl (by kernel_rfl) (by kernel_rfl) (by kernel_rfl) (by kernel_rfl) (fun _ _ _ h => h) (Or.inl ⟨by kernel_rfl, ?_⟩) ?_; rotate_left; (intro w hc; have k0 := hc; clear hc; go_simp; try with_reducible rfl))
  (refine wpAnyX_take (i := 11) (v := ?_) hC4 rfl (by kernel_rfl) (by kernel_rfl) (by kernel_rfl) (by kernel_rfl) (fun _ _ _ h => h) (Or.inl ⟨by kernel_rfl, ?_⟩) ?_; rotate_left; (intro w hc; have k0 := hc; clear hc; go_simp; try with_reducible rfl))
  (refine wpAnyX_take (i := 12) (v := ?_) hC4 rfl (by kernel_rfl) (by kernel_rfl) (by kernel_rfl) (by kernel_rfl) (fun _ _ _ h => h) (Or.inl ⟨by kernel_rfl, ?_⟩) ?_; rotate_left; (intro w hc; have k0 := hc; clear hc; go_simp; try with_reducible rfl))
  go_simp
  refine wpAnyX_one (i := 13) (by kernel_rfl) (wpOp_wanted rfl (by rfl) ?_)
  go_simp
  refine wpAnyX_done (by kernel_rfl) ?_ _
  obtain ⟨g, ha3⟩ : ∃ g, a3 = some ⟨g, 0, none⟩ := by
    rcases ho5 with ⟨_, e⟩ | ⟨g, cap, cur, e, _⟩
    · simp at e
    · simp only [Value.slice.injEq] at e
      exact ⟨g, e.1⟩
  subst ha3
  have hgR : g ≠ R := HNR.out g rfl
  have hR5 : Rb w5 R (.slice (some ⟨g, 0, none⟩) (L.length + 1) c3) := (hg5.block R (lt_of_block HR4.out) (fun e => hgR (Option.some.inj e).symm)).trans HR4.out
  have hT5 : Turn (fun j => j = R ∨ (Value.slice va L.length vc).ownBlock = some j) w2 w5 :=
    (HT4.out.drew).trans (Turn.of_grown (S := fun j => j = g) hg5 fun j e => (Option.some.inj e).symm) fun j hj => by
      subst hj
      exact (HN.out j rfl).imp .inr id
  obtain ⟨un, uv, uf, uo, ue⟩ := uu
  have hlt : (vs.take k).length = k := by rw [List.length_take]; omega
  have hlen : ∀ y, (vs.take k ++ y :: vs.drop k).length = L.length + 1 := fun y => by simp; omega
  have hset : ∀ y y', (vs.take k ++ y :: vs.drop k).set k y' = vs.take k ++ y' :: vs.drop k := fun y y' => by
    rw [List.set_append_right _ _ (by omega), hlt, Nat.sub_self]; rfl
  have hget : ∀ y, (vs.take k ++ y :: vs.drop k)[k]? = some y := fun y => by
    rw [List.getElem?_append_right (by omega), hlt, Nat.sub_self]; rfl
  obtain ⟨cur, hcur, hcap, hct⟩ : ∃ cur, w5.heap[g]? = some (.cells cur 36 (0, 0)) ∧ L.length + 1 ≤ c3 ∧ cur.toList.take ((vs.take k ++ (⟨un, uv, uf, uo, ue⟩ : Vr) :: vs.drop k).length * 5) = flatV (vs.take k ++ ⟨un, uv, uf, uo, ue⟩ :: vs.drop k) := by
    rcases ho5 with ⟨e, _⟩ | ⟨g', cap, cur, e, h1, h2, h3, h4⟩
    · cases e
    · simp only [Value.slice.injEq, Option.some.injEq, Addr.mk.injEq, and_true] at e
      obtain ⟨rfl, _, rfl⟩ := e
      rw [hlen] at h2
      exact ⟨cur, h1, h2, h4⟩
  have d0 := cell_row hcur hct (hget _) (r := 0) (by omega) rfl
  have d1 := cell_row hcur hct (hget _) (r := 1) (by omega) rfl
  have d2 := cell_row hcur hct (hget _) (r := 2) (by omega) rfl
  have d3 := cell_row hcur hct (hget _) (r := 3) (by omega) rfl
  have d4 := cell_row hcur hct (hget _) (r := 4) (by omega) rfl
  simp only [Nat.add_zero] at d0
  have z := fun j => Lib.frozen_of_heap hcur j
  have o0 := VOwn.set ho5 (hget _) 0 (by omega) (.string (mk p)) ⟨p, uv, uf, uo, ue⟩ rfl
  rw [hset] at o0
  have o1 := VOwn.set o0 (hget _) 1 (by omega) (.string (mk u)) ⟨p, u, uf, uo, ue⟩ rfl
  rw [hset] at o1
  have o2 := VOwn.set o1 (hget _) 2 (by omega) (.int .i64 f) ⟨p, u, f, uo, ue⟩ rfl
  rw [hset] at o2
  have o3 := VOwn.set o2 (hget _) 3 (by omega) (.int .i64 o) ⟨p, u, f, o, ue⟩ rfl
  rw [hset] at o3
  have o4 := VOwn.set o3 (hget _) 4 (by omega) (.int .i64 0) ⟨p, u, f, o, 0⟩ rfl
  rw [hset] at o4
  simp only [Nat.add_zero] at o4
  have O4 := hide' o4
  have c5 := hR5.c0
  have k1 : (k : Int) < (L.length : Int) + 1 := by have := HK.out.le; omega
  clear o0 o1 o2 o3 o4 hct hx hy hcp ho5 hg5 hset hget hC4 hcur
  go_wp2
  go_ret
  have hput : (put L p ⟨p, u, f, o, 0⟩).map (·.2) = vs.take k ++ ⟨p, u, f, o, 0⟩ :: vs.drop k := by
    rw [HK.out.put HF.out, HV.out]
    simp
  refine ⟨rfl, .slice (some ⟨g, 0, none⟩) (L.length + 1) c3, RChg.after HB2.out ⟨?_, ?_, fun j hj => HN.out j hj⟩⟩
  · refine Rf.put H.out rfl ?_ ?_ (by rw [hput]; exact O4.out)
    · have := congrArg List.length hput
      rw [List.length_map, hlen] at this
      omega
    · exact (Below.heap_setCell _ _ _ _ (by simpa using hgR.symm)).trans ((Below.heap_setCell _ _ _ _ (by simpa using hgR.symm)).trans ((Below.heap_setCell _ _ _ _ (by simpa using hgR.symm)).trans ((Below.heap_setCell _ _ _ _ (by simpa using hgR.symm)).trans ((Below.heap_setCell _ _ _ _ (by simpa using hgR.symm)).trans hR5))))
  · have hS : (g = R ∨ (Value.slice va L.length vc).ownBlock = some g) ∨ w2.heap.size ≤ g := (HN.out g rfl).imp .inr id
    exact ((((hT5.setCell hS _).setCell hS _).setCell hS _).setCell hS _).setCell hS _
end Go.Proofs.Ytillechackcbpaa
