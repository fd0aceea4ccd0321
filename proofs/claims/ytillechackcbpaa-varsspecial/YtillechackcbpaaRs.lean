/- The contracts of the reference's Get and Set. -/
import Derived.Test.YtillechackcbpaaRg
namespace Go.Proofs.Ytillechackcbpaa
open Go.RowKit Go.Maps

/-- what a change of the reference's store leaves -/
structure RChg (w w' : World) (R : Nat) (v v' : Value) (L : Vs) : Prop where
  rf : Rf w' R v' L
  turn : Turn (fun k => k = R ∨ v.ownBlock = some k) w w'
  own : ∀ g, v'.ownBlock = some g → v.ownBlock = some g ∨ w.heap.size ≤ g
theorem RChg.same {w w' : World} {R : Nat} {v : Value} {L : Vs} (h : Rf w R v L) (hb : Below w.heap.size w w') : RChg w w' R v v L :=
  ⟨h.below hb, Turn.of_below hb, fun _ e => .inl e⟩
theorem RChg.after {w w1 w' : World} {R : Nat} {v v' : Value} {L : Vs} (hb : Below w.heap.size w w1) (h : RChg w1 w' R v v' L) : RChg w w' R v v' L :=
  ⟨h.rf, (Turn.of_below hb).trans' h.turn, fun k e => (h.own k e).imp id fun h1 => Nat.le_trans hb.size h1⟩
theorem RChg.then {w w1 w' : World} {R : Nat} {v v' : Value} {L : Vs} (h : RChg w w1 R v v' L) (hb : Below w1.heap.size w1 w') : RChg w w' R v v' L :=
  ⟨h.rf.below hb, h.turn.trans' (Turn.of_below hb), h.own⟩
theorem RChg.trans {w w1 w' : World} {R : Nat} {v v1 v' : Value} {L L' : Vs} (h : RChg w w1 R v v1 L) (k : RChg w1 w' R v1 v' L') : RChg w w' R v v' L' :=
  ⟨k.rf, h.turn.trans k.turn (fun i hi => by
    rcases hi with rfl | hi
    · exact .inl (.inl rfl)
    · exact (h.own i hi).imp .inr id), fun i hi => by
    rcases k.own i hi with h1 | h1
    · exact h.own i h1
    · exact .inr (Nat.le_trans h.turn.size h1)⟩
/-- the row, and a variable in it -/
theorem Rf.at {w : World} {R : Nat} {v : Value} {L : Vs} (h : Rf w R v L) {k : Nat} {e : Bs × Vr} (hk : L[k]? = some e) :
    ∃ g cap, v = .slice (some ⟨g, 0, none⟩) L.length cap ∧ L.length ≤ cap ∧ k < L.length ∧ (∃ cur, w.heap[g]? = some (.cells cur 36 (0, 0))) ∧ ∀ (r : Nat) u, (cellsV e.2)[r]? = some u → w.cell? ⟨g, k * 5 + r, none⟩ = some u := by
  have hil := (List.getElem?_eq_some_iff.1 hk).1
  rcases h.row with ⟨_, e2⟩ | ⟨g, cap, cur, e1, hg, r1, r2, r3⟩
  · have : L = [] := List.map_eq_nil_iff.1 e2
    subst this; simp at hk
  · rw [List.length_map] at e1 r1
    refine ⟨g, cap, e1, r1, hil, ⟨cur, hg⟩, fun r u hu => ?_⟩
    exact cell_row hg r3 (i := k) (n := e.2) (by rw [List.getElem?_map, hk]; rfl) (by have := (List.getElem?_eq_some_iff.1 hu).1; exact this) hu
theorem getV_none {L : Vs} {p : Bs} (h : fnd L p = none) : getV L p = zeroVr := by unfold getV; rw [h]; rfl
theorem getV_some {L : Vs} {p : Bs} {x : Vr} (h : fnd L p = some x) : getV L p = x := by unfold getV; rw [h]; rfl
set_option maxRecDepth 100000 in
set_option maxHeartbeats 2000000 in
theorem rget_any (R : Nat) (v : Value) (L : Vs) (p : Bs) (w : World) (h : Rf w R v L) :
    Calls Try.prog 14 #[.pointer (some ⟨R, 0, none⟩), .string (mk p)] w fun r w' => r = .returned (.tuple #[vV (getV L p), .bool (fnd L p).isSome]) ∧ Below w.heap.size w w' := by
  have b1 : ∀ o, Below w.heap.size w (w.alloc o) := fun o => below_alloc (Below.refl _ _) (Nat.le_refl _) o
  have q := fun o => rat_any R v L p (w.alloc o) (h.below (b1 o))
  have H := hide' h
  clear h
  cases hf : fnd L p with
  | none =>
    rw [hf] at q
    rw [getV_none hf]
    dsimp only [vV, zeroVr, Option.isSome] at q ⊢
    go_enter Try.func14, Try.ntmps14
    go_wp2_with fail
    refine (q _).mono ?_
    rintro r w2 ⟨k, rfl, hk, hb2⟩
    have hz : Bx w2 w.heap.size ⟨#[]⟩ ⟨#[]⟩ 0 0 0 := Bx.below (heap_alloc_new w _) hb2
    have hB2 : Below w.heap.size w w2 := (b1 _).trans (hb2.mono (b1 _).size)
    have e0 := hz.c0
    have e1 := hz.c1
    have e2 := hz.c2
    have e3 := hz.c3
    have e4 := hz.c4
    have z0 := hz.fz 0
    have z1 := hz.fz 1
    have z2 := hz.fz 2
    have z3 := hz.fz 3
    have z4 := hz.fz 4
    clear hb2 b1 q
    go_wp2
    have hF := hz.set ⟨#[]⟩ ⟨#[]⟩ 0 0 0
    have hbF := put5_below hB2 (Nat.le_refl _) ⟨#[]⟩ ⟨#[]⟩ 0 0 0
    dsimp only [put5] at hF hbF
    generalize ((((w2.setCell ⟨w.heap.size, 0, none⟩ (.string ⟨#[]⟩)).setCell ⟨w.heap.size, 1, none⟩ (.string ⟨#[]⟩)).setCell ⟨w.heap.size, 2, none⟩ (.int .i64 0)).setCell ⟨w.heap.size, 3, none⟩ (.int .i64 0)).setCell ⟨w.heap.size, 4, none⟩ (.int .i64 0) = W' at hF hbF ⊢
    clear e0 e1 e2 e3 e4 z0 z1 z2 z3 z4 hz
    have e0 := hF.c0
    have e1 := hF.c1
    have e2 := hF.c2
    have e3 := hF.c3
    have e4 := hF.c4
    refine bodyPost_ret (by simp [results, Try.results14, go_sem, e0, e1, e2, e3, e4]; rfl) rfl ?_
    exact ⟨rfl, hbF⟩
  | some x =>
    rw [hf] at q
    rw [getV_some hf]
    obtain ⟨xn, xv, xf, xo, xe⟩ := x
    dsimp only [vV, Option.isSome] at q ⊢
    go_enter Try.func14, Try.ntmps14
    go_wp2_with fail
    refine (q _).mono ?_
    rintro r w2 ⟨k, rfl, hk, hb2⟩
    have hz : Bx w2 w.heap.size ⟨#[]⟩ ⟨#[]⟩ 0 0 0 := Bx.below (heap_alloc_new w _) hb2
    have hB2 : Below w.heap.size w w2 := (b1 _).trans (hb2.mono (b1 _).size)
    have hr2 := H.out.below hB2
    obtain ⟨g, cap, rfl, hc, hkl, _, hcell⟩ := hr2.at (hk.found hf hr2.srt)
    have c0 := hr2.rb.c0
    have d0 := hcell 0 _ rfl
    have d1 := hcell 1 _ rfl
    have d2 := hcell 2 _ rfl
    have d3 := hcell 3 _ rfl
    have d4 := hcell 4 _ rfl
    simp only [Nat.add_zero] at d0
    have hg0 : g ≠ w.heap.size := fun e => by
      have := H.out.row.lt g rfl
      omega
    have e0 := hz.c0
    have e1 := hz.c1
    have e2 := hz.c2
    have e3 := hz.c3
    have e4 := hz.c4
    have z0 := hz.fz 0
    have z1 := hz.fz 1
    have z2 := hz.fz 2
    have z3 := hz.fz 3
    have z4 := hz.fz 4
    have k1 : (k : Int) < L.length := by omega
    have hcn := hr2.cnt
    clear hb2 b1 q hcell hr2 hk hf
    go_wp2
    have hF := hz.set (mk xn) (mk xv) xf xo xe
    have hbF := put5_below hB2 (Nat.le_refl _) (mk xn) (mk xv) xf xo xe
    dsimp only [put5] at hF hbF
    generalize ((((w2.setCell ⟨w.heap.size, 0, none⟩ (.string (mk xn))).setCell ⟨w.heap.size, 1, none⟩ (.string (mk xv))).setCell ⟨w.heap.size, 2, none⟩ (.int .i64 xf)).setCell ⟨w.heap.size, 3, none⟩ (.int .i64 xo)).setCell ⟨w.heap.size, 4, none⟩ (.int .i64 xe) = W' at hF hbF ⊢
    clear e0 e1 e2 e3 e4 z0 z1 z2 z3 z4 hz d0 d1 d2 d3 d4
    have e0 := hF.c0
    have e1 := hF.c1
    have e2 := hF.c2
    have e3 := hF.c3
    have e4 := hF.c4
    refine bodyPost_ret (by simp [results, Try.results14, go_sem, e0, e1, e2, e3, e4]; rfl) rfl ?_
    exact ⟨rfl, hbF⟩
theorem put_found {L : Vs} (hs : Srt L) {p : Bs} {x : Vr} {k : Nat} (hk : L[k]? = some (p, x)) (x' : Vr) : put L p x' = L.set k (p, x') := put_set hs hk x'
theorem set_map (L : Vs) (k : Nat) (p : Bs) (x : Vr) : (L.set k (p, x)).map (·.2) = (L.map (·.2)).set k x := by rw [List.map_set]
/-- the reference's store, a variable of its row turned -/
theorem Rf.put {w w' : World} {R : Nat} {v v' : Value} {L : Vs} {p : Bs} {x : Vr} (h : Rf w R v L) (hn : x.name = p) (hc : (put L p x).length ≤ 1000) (hr : Rb w' R v') (hv : VOwn w' v' ((put L p x).map (·.2))) : Rf w' R v' (put L p x) :=
  ⟨hr, hv, h.srt.put p x, fun e he => by
    rcases mem_put.1 he with rfl | he
    · exact hn
    · exact h.nm e he.1, hc⟩
set_option maxRecDepth 100000 in
set_option maxHeartbeats 2000000 in
theorem rset_held (R : Nat) (v : Value) (L : Vs) (p u : Bs) (f o : Int) (w : World) (h : Rf w R v L) (x : Vr) (hf : fnd L p = some x) (ho : o < x.origin) :
    Calls Try.prog 17 #[.pointer (some ⟨R, 0, none⟩), .string (mk p), .string (mk u), .int .i64 f, .int .i64 o] w fun r w' => r = .returned (.bool false) ∧ Below w.heap.size w w' := by
  have q := rat_any R v L p w h
  rw [hf] at q
  dsimp only [Option.isSome] at q
  have H := hide' h
  clear h
  go_enter Try.func17, Try.ntmps17
  go_wp2_with fail
  refine q.mono ?_
  rintro r w2 ⟨k, rfl, hk, hb2⟩
  have hr2 := H.out.below hb2
  obtain ⟨g, cap, rfl, hc, hkl, _, hcell⟩ := hr2.at (hk.found hf hr2.srt)
  have c0 := hr2.rb.c0
  have d3 := hcell 3 _ rfl
  have k1 : (k : Int) < L.length := by omega
  have hcn := hr2.cnt
  have HB := hide' hb2
  clear hb2 q hcell hr2 hk hf
  go_wp2
  go_ret
  exact ⟨rfl, HB.out⟩
set_option maxRecDepth 100000 in
set_option maxHeartbeats 2000000 in
theorem rset_full (R : Nat) (v : Value) (L : Vs) (p u : Bs) (f o : Int) (w : World) (h : Rf w R v L) (hf : fnd L p = none) (hc : 1000 ≤ L.length) :
    Calls Try.prog 17 #[.pointer (some ⟨R, 0, none⟩), .string (mk p), .string (mk u), .int .i64 f, .int .i64 o] w fun r w' => r = .returned (.bool false) ∧ Below w.heap.size w w' := by
  have q := rat_any R v L p w h
  rw [hf] at q
  dsimp only [Option.isSome] at q
  obtain ⟨va, vc, hv⟩ := h.row.len
  rw [List.length_map] at hv
  subst hv
  have H := hide' h
  clear h
  have hc1 : (1000 : Int) ≤ L.length := by omega
  go_enter Try.func17, Try.ntmps17
  go_wp2_with fail
  refine q.mono ?_
  rintro r w2 ⟨k, rfl, hk, hb2⟩
  have c0 := (H.out.below hb2).rb.c0
  have HB := hide' hb2
  clear hb2 q hk hf
  go_wp2
  go_ret
  exact ⟨rfl, HB.out⟩
set_option maxRecDepth 100000 in
set_option maxHeartbeats 2000000 in
theorem rset_old (R : Nat) (v : Value) (L : Vs) (p u : Bs) (f o : Int) (w : World) (h : Rf w R v L) (x : Vr) (hf : fnd L p = some x) (ho : ¬ o < x.origin) :
    Calls Try.prog 17 #[.pointer (some ⟨R, 0, none⟩), .string (mk p), .string (mk u), .int .i64 f, .int .i64 o] w fun r w' => r = .returned (.bool true) ∧ RChg w w' R v v (put L p ⟨p, u, f, o, x.exp⟩) := by
  have q := rat_any R v L p w h
  rw [hf] at q
  dsimp only [Option.isSome] at q
  have H := hide' h
  clear h
  go_enter Try.func17, Try.ntmps17
  go_wp2_with fail
  refine q.mono ?_
  rintro r w2 ⟨k, rfl, hk, hb2⟩
  have hr2 := H.out.below hb2
  have hLk := hk.found hf hr2.srt
  obtain ⟨g, cap, rfl, hc, hkl, ⟨cur, hgc⟩, hcell⟩ := hr2.at hLk
  have hnx : x.name = p := hr2.nm _ (List.mem_of_getElem? hLk)
  have hgR := hr2.ne g rfl
  have hR2 := hr2.rb
  obtain ⟨xn, xv, xf, xo, xe⟩ := x
  simp only at hnx ho
  subst hnx
  have hvk : (L.map (·.2))[k]? = some ⟨xn, xv, xf, xo, xe⟩ := by rw [List.getElem?_map, hLk]; rfl
  have o1 := VOwn.set hr2.row hvk 1 (by omega) (.string (mk u)) ⟨xn, u, xf, xo, xe⟩ rfl
  have hv1 : ((L.map (·.2)).set k ⟨xn, u, xf, xo, xe⟩)[k]? = some ⟨xn, u, xf, xo, xe⟩ := by rw [List.getElem?_set_self (by rw [List.length_map]; exact hkl)]
  have o2 := VOwn.set o1 hv1 2 (by omega) (.int .i64 f) ⟨xn, u, f, xo, xe⟩ rfl
  rw [List.set_set] at o2
  have hv2 : ((L.map (·.2)).set k ⟨xn, u, f, xo, xe⟩)[k]? = some ⟨xn, u, f, xo, xe⟩ := by rw [List.getElem?_set_self (by rw [List.length_map]; exact hkl)]
  have o3 := VOwn.set o2 hv2 3 (by omega) (.int .i64 o) ⟨xn, u, f, o, xe⟩ rfl
  rw [List.set_set] at o3
  have c0 := hR2.c0
  have c1 : ∀ (j : Nat) (y : Value), (w2.setCell ⟨g, j, none⟩ y).cell? ⟨R, 0, none⟩ = some (.slice (some ⟨g, 0, none⟩) L.length cap) := fun j y => (World.cell?_of_block (a := ⟨R, 0, none⟩) (Below.heap_setCell _ _ _ _ (by simpa using hgR.symm))).trans c0
  have c2 : ∀ (j : Nat) (y : Value) (j' : Nat) (y' : Value), ((w2.setCell ⟨g, j, none⟩ y).setCell ⟨g, j', none⟩ y').cell? ⟨R, 0, none⟩ = some (.slice (some ⟨g, 0, none⟩) L.length cap) := fun j y j' y' => (World.cell?_of_block (a := ⟨R, 0, none⟩) (Below.heap_setCell _ _ _ _ (by simpa using hgR.symm))).trans (c1 j y)
  have d0 := hcell 0 _ rfl
  have d1 := hcell 1 _ rfl
  have d2 := hcell 2 _ rfl
  have d3 := hcell 3 _ rfl
  have z := fun j => Lib.frozen_of_heap hgc j
  have k1 : (k : Int) < L.length := by omega
  have hcn := hr2.cnt
  have HB := hide' hb2
  have O3 := hide' o3
  have HK := hide' hLk
  clear hb2 q hcell hr2 hk hf o1 o2 o3 hv1 hv2 hvk hLk hgc d0
  go_wp2
  go_ret
  refine ⟨rfl, RChg.after HB.out ⟨?_, ?_, fun _ e => .inl e⟩⟩
  · have hpf := put_found H.out.srt HK.out ⟨xn, u, f, o, xe⟩
    refine Rf.put H.out rfl (by rw [hpf, List.length_set]; exact hcn) ?_ (by rw [hpf, set_map]; exact O3.out)
    exact (Below.heap_setCell _ _ _ _ (by simpa using hgR.symm)).trans ((Below.heap_setCell _ _ _ _ (by simpa using hgR.symm)).trans ((Below.heap_setCell _ _ _ _ (by simpa using hgR.symm)).trans hR2))
  · exact (((Turn.refl _ _).setCell (.inl (.inr rfl)) _).setCell (.inl (.inr rfl)) _).setCell (.inl (.inr rfl)) _
end Go.Proofs.Ytillechackcbpaa
