/- The contracts of the law's SameVars, and of Twin. -/
import Derived.Test.YtillechackcbpaaRg
import Derived.BigQuiet
namespace Go.Proofs.Ytillechackcbpaa
open Go.RowKit Go.Maps

theorem RowV.own {w : World} {b : Nat} {v : Value} {vs : List Vr} (h : RowV w b v vs) : VOwn w v vs := by
  rcases h.2 with ⟨e, h0⟩ | ⟨g, cap, cur, e, _, hg, r1, _, r3, r4⟩
  · exact .inl ⟨e, List.length_eq_zero_iff.1 h0⟩
  · exact .inr ⟨g, cap, cur, e, hg, r1, by omega, r4⟩
theorem RowV.ge {w : World} {b : Nat} {v : Value} {vs : List Vr} (h : RowV w b v vs) : ∀ g, v.ownBlock = some g → b ≤ g := by
  intro g hg
  rcases h.2 with ⟨e, h0⟩ | ⟨g', cap, cur, e, hb, _⟩
  · rw [e] at hg; cases hg
  · rw [e] at hg; cases hg; exact hb
/-- a row, and the variable at a place -/
theorem VOwn.at {w : World} {v : Value} {vs : List Vr} (h : VOwn w v vs) {k : Nat} {x : Vr} (hk : vs[k]? = some x) :
    ∃ g cap, v = .slice (some ⟨g, 0, none⟩) vs.length cap ∧ vs.length ≤ cap ∧ w.cell? ⟨g, k * 5, none⟩ = some (.string (mk x.name)) ∧ w.cell? ⟨g, k * 5 + 1, none⟩ = some (.string (mk x.value)) ∧ w.cell? ⟨g, k * 5 + 2, none⟩ = some (.int .i64 x.flav) ∧ w.cell? ⟨g, k * 5 + 3, none⟩ = some (.int .i64 x.origin) ∧ w.cell? ⟨g, k * 5 + 4, none⟩ = some (.int .i64 x.exp) := by
  rcases h with ⟨_, rfl⟩ | ⟨g, cap, cur, e1, hg, r1, r2, r3⟩
  · simp at hk
  · exact ⟨g, cap, e1, r1, by simpa using cell_row hg r3 (r := 0) hk (by omega) rfl, cell_row hg r3 hk (by omega) rfl, cell_row hg r3 hk (by omega) rfl, cell_row hg r3 hk (by omega) rfl, cell_row hg r3 hk (by omega) rfl⟩
set_option maxRecDepth 100000 in
set_option maxHeartbeats 2000000 in
theorem same_any (v v' : Value) (vs : List Vr) (w : World) (h : VOwn w v vs) (h' : VOwn w v' vs) (hl : vs.length ≤ 1000) :
    Calls Try.prog 15 #[v, v'] w fun r w' => r = .returned (.bool true) ∧ Below w.heap.size w w' := by
  obtain ⟨a, c, rfl⟩ := h.len
  obtain ⟨a', c', rfl⟩ := h'.len
  have H := hide' h
  have H' := hide' h'
  clear h h'
  go_enter Try.func15, Try.ntmps15
  go_wp2
  go_loopw [5] (fun i wr => ∃ k q : Nat, k ≤ vs.length ∧ i = .int .i64 k ∧ wr = w.drewN q) (fun i _ => vs.length - (intOf i).toNat)
  case atStart => exact ⟨0, 0, Nat.zero_le _, rfl, rfl⟩
  case round =>
    obtain ⟨k, q, hk, rfl, rfl⟩ := hrel
    by_cases hkl : k < vs.length
    · have k1 : (k : Int) < vs.length := by omega
      obtain ⟨x, hx⟩ : ∃ x, vs[k]? = some x := ⟨_, List.getElem?_eq_getElem hkl⟩
      obtain ⟨g, cap, e, hc, d0, d1, d2, d3, d4⟩ := H.out.at hx
      obtain ⟨g', cap', e', hc', f0, f1, f2, f3, f4⟩ := H'.out.at hx
      cases e
      cases e'
      obtain ⟨xn, xv, xf, xo, xe⟩ := x
      dsimp only at d0 d1 d2 d3 d4 f0 f1 f2 f3 f4
      have vn := fun W => var_neq (mk xn) (mk xv) xf xo xe W
      clear hx
      go_wp2
      go_quiet (fail)
      go_wp2
      exact ⟨⟨k + 1, q + nq, by omega, by simp, rfl⟩, by simp [intOf]; omega⟩
    · obtain rfl : k = vs.length := by omega
      have k1 : ¬ (vs.length : Int) < vs.length := by omega
      go_wp2
      go_ret
      exact ⟨rfl, below_drewn q⟩
theorem sw_lay {B : Nat} {w0 w : World} {A : Nat} {L : Vs} (h : Sw B w0 w A L) (hB : B ≤ w0.heap.size) (x : Vr) (hp : x.name.length ≤ 1000000) (hv : x.value.length ≤ 1000000) (hr : room L x.name = true) :
    Calls Try.prog 22 #[.pointer (some ⟨A, 0, none⟩), vV x] w fun r w' => r = .returned (.tuple #[]) ∧ Sw B w0 w' A (putIf L x) ∧ Kb w w' := by
  obtain ⟨m, h1, h2, h3⟩ := h.ex
  refine (lay_any A m L x w h1 hp hv hr).mono ?_
  rintro r w' ⟨rfl, m', hc⟩
  exact ⟨rfl, Sw.chg h.below hB h2 h3 hc, Chg.kb h1 hc⟩
theorem ins_end {α : Type} (x : Bs × α) : ∀ L : List (Bs × α), (∀ e ∈ L, bytesBefore x.1 e.1 = false) → ins x L = L ++ [x]
  | [], _ => rfl
  | y :: r, h => by
    unfold ins
    rw [if_neg (by rw [h y List.mem_cons_self]; simp), ins_end x r fun e he => h e (List.mem_cons_of_mem _ he)]
    rfl
theorem take_put {L : Vs} (hs : Srt L) (hc : L.length ≤ 1000) {k : Nat} {e : Bs × Vr} (hk : L[k]? = some e) (hn : e.2.name = e.1) : room (L.take k) e.2.name = true ∧ putIf (L.take k) e.2 = L.take (k + 1) := by
  have hkl := (List.getElem?_eq_some_iff.1 hk).1
  have hb : ∀ y ∈ L.take k, bytesBefore y.1 e.1 = true := fun y hy => by
    obtain ⟨i, hi⟩ := List.getElem?_of_mem hy
    have hil : i < k := by
      have := (List.getElem?_eq_some_iff.1 hi).1
      rw [List.length_take] at this
      omega
    rw [List.getElem?_take_of_lt hil] at hi
    exact srt_at hs hi hk hil
  have hf : fnd (L.take k) e.1 = none := fnd_none_of fun y hy => before_ne (hb y hy)
  have hr : room (L.take k) e.1 = true := by
    unfold room
    rw [hf, List.length_take]
    simp
    omega
  refine ⟨hn.symm ▸ hr, ?_⟩
  unfold putIf
  rw [hn, hr, if_pos rfl]
  unfold put
  rw [del_none hf, ins_end _ _ fun y hy => before_asymm (hb y hy), List.take_add_one, hk]
  rfl
set_option maxRecDepth 100000 in
set_option maxHeartbeats 2000000 in
theorem twin_any (A : Nat) (m : Option Nat) (L : Vs) (w : World) (h : St w A m L) :
    Calls Try.prog 10 #[.pointer (some ⟨A, 0, none⟩)] w fun r w' => r = .returned (.pointer (some ⟨w.heap.size, 0, none⟩)) ∧ Sw w.heap.size w w' w.heap.size L := by
  have H := hide' h
  have hcn := h.cnt
  have hB1 : Below w.heap.size w (w.alloc (.cells #[.map none] 54)) := below_alloc (Below.refl _ _) (Nat.le_refl _) _
  have q := list_any A m L _ (h.below hB1)
  have HB1 := hide' hB1
  have HS := hide' (Sw.new w)
  clear h hB1
  go_enter Try.func10, Try.ntmps10
  go_wp2_with fail
  refine (new_any w).mono ?_
  rintro r w1 ⟨rfl, rfl⟩
  go_wp2_with fail
  refine q.mono ?_
  rintro r w2 ⟨v, rfl, hrow, hb2⟩
  have hown := hrow.own
  obtain ⟨va, vc, hv⟩ := hown.len
  rw [List.length_map] at hv
  subst hv
  have HO := hide' hown
  have HS2 := hide' (HS.out.more (Nat.le_refl _) hb2)
  clear hrow hown hb2 q HS
  go_wp2
  go_loopw [5, 10] (fun _ i wr => ∃ (k : Nat), k ≤ L.length ∧ i = .int .i64 k ∧ Sw w.heap.size w wr w.heap.size (L.take k) ∧ Kb w2 wr) (fun _ i _ => L.length - (intOf i).toNat)
  case atStart => exact ⟨0, Nat.zero_le _, rfl, HS2.out, fun _ _ _ _ _ h => h⟩
  case round =>
    obtain ⟨k, hk, rfl, hsr, hkb⟩ := hrel
    by_cases hkl : k < L.length
    · have k1 : (k : Int) < L.length := by omega
      obtain ⟨e, he⟩ : ∃ e, L[k]? = some e := ⟨_, List.getElem?_eq_getElem hkl⟩
      have hvr : VOwn wr (.slice va L.length vc) (L.map (·.2)) := HO.out.kept fun g hg => by
        obtain ⟨cur, hc⟩ := HO.out.elem g hg
        exact (hkb g _ 36 _ (by decide) hc).trans hc.symm
      obtain ⟨g, cap, e1, hcp, d0, d1, d2, d3, d4⟩ := hvr.at (k := k) (x := e.2) (by rw [List.getElem?_map, he]; rfl)
      rw [List.length_map] at e1 hcp
      cases e1
      have hnm := H.out.nm e (List.mem_of_getElem? he)
      have hln := H.out.len e (List.mem_of_getElem? he)
      have htp := take_put H.out.srt hcn he hnm
      have qp : Hid (∀ x, Calls Try.prog 22 #[.pointer (some ⟨w.heap.size, 0, none⟩), vV e.2] (wr.alloc x).drew fun r w' => r = .returned (.tuple #[]) ∧ Sw w.heap.size w w' w.heap.size (L.take (k + 1)) ∧ Kb w2 w') := fun x => by
        have hb : Below wr.heap.size wr (wr.alloc x).drew := (below_alloc (Below.refl _ _) (Nat.le_refl _) x).drew
        refine (sw_lay (hsr.more (Nat.le_refl _) hb) (Nat.le_refl _) e.2 (by rw [hnm]; exact hln.1) hln.2 htp.1).mono ?_
        rintro r w' ⟨hr, h1, h2⟩
        rw [htp.2] at h1
        exact ⟨hr, h1, hkb.trans ((Kb.of_below hb).trans h2)⟩
      obtain ⟨en, ⟨xn, xv, xf, xo, xe⟩⟩ := e
      dsimp only [vV] at qp d0 d1 d2 d3 d4
      clear hvr hnm hln htp he hsr hkb
      have hC : Bx (wr.alloc (.cells #[.string (mk xn), .string (mk xv), .int .i64 xf, .int .i64 xo, .int .i64 xe] 36)).drew wr.heap.size (mk xn) (mk xv) xf xo xe := heap_alloc_new wr _
      go_wp2
      refine wp_region_classX [4] (C := fun W => Bx W wr.heap.size (mk xn) (mk xv) xf xo xe) (by kernel_rfl) ?_
      (refine wpAnyX_take (i := 0) (v := ?_) hC rfl (by kernel_rfl) (by kernel_rfl) (by kernel_rfl) (by kernel_rfl) (fun _ _ _ h => h) (Or.inl ⟨by kernel_rfl, ?_⟩) ?_; rotate_left; (intro w hc; have k0 := hc.c0; have k1 := hc.c1; have k2 := hc.c2; have k3 := hc.c3; have k4 := hc.c4; clear hc; go_simp; try with_reducible rfl))
      (refine wpAnyX_take (i := 1) (v := ?_) hC rfl (by kernel_rfl) (by kernel_rfl) (by kernel_rfl) (by kernel_rfl) (fun _ _ _ h => h) (Or.inl ⟨by kernel_rfl, ?_⟩) ?_; rotate_left; (intro w hc; have k0 := hc.c0; have k1 := hc.c1; have k2 := hc.c2; have k3 := hc.c3; have k4 := hc.c4; clear hc; go_simp; try with_reducible rfl))
      (refine wpAnyX_take (i := 2) (v := ?_) hC rfl (by kernel_rfl) (by kernel_rfl) (by kernel_rfl) (by kernel_rfl) (fun _ _ _ h => h) (Or.inl ⟨by kernel_rfl, ?_⟩) ?_; rotate_left; (intro w hc; have k0 := hc.c0; have k1 := hc.c1; have k2 := hc.c2; have k3 := hc.c3; have k4 := hc.c4; clear hc; go_simp; try with_reducible rfl))
      (refine wpAnyX_take (i := 3) (v := ?_) hC rfl (by kernel_rfl) (by kernel_rfl) (by kernel_rfl) (by kernel_rfl) (fun _ _ _ h => h) (Or.inl ⟨by kernel_rfl, ?_⟩) ?_; rotate_left; (intro w hc; have k0 := hc.c0; have k1 := hc.c1; have k2 := hc.c2; have k3 := hc.c3; have k4 := hc.c4; clear hc; go_simp; try with_reducible rfl))
      go_simp
      refine wpAnyX_one (i := 4) (by kernel_rfl) (wpOp_wanted rfl (by rfl) ?_)
      go_simp
      refine (qp.out _).mono ?_
      rintro r w4 ⟨rfl, hs4, hk4⟩
      dsimp only
      go_simp
      refine wpAnyX_done (by kernel_rfl) ?_ _
      have HE := hide' (And.intro hs4 hk4)
      clear hs4 hk4 hC
      go_wp2
      exact ⟨⟨k + 1, by omega, by simp, HE.out.1, HE.out.2⟩, by simp [intOf]; omega⟩
    · obtain rfl : k = L.length := by omega
      have k1 : ¬ (L.length : Int) < L.length := by omega
      rw [List.take_length] at hsr
      have HE := hide' hsr
      clear hsr hkb
      go_wp2
      go_ret
      exact ⟨rfl, HE.out⟩
end Go.Proofs.Ytillechackcbpaa
