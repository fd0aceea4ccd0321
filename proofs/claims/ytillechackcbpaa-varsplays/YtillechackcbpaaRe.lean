/- The contract of the reference's Export. -/
import Derived.Test.YtillechackcbpaaRx
namespace Go.Proofs.Ytillechackcbpaa
open Go.RowKit Go.Maps

theorem del_ins {α : Type} (p : Bs) (x : α) : ∀ M : List (Bs × α), (∀ e ∈ M, e.1 ≠ p) → del (ins (p, x) M) p = M
  | [], _ => by simp [ins, del]
  | y :: r, h => by
    have hy := h y List.mem_cons_self
    have hr : ∀ e ∈ r, e.1 ≠ p := fun e he => h e (List.mem_cons_of_mem _ he)
    unfold ins
    split
    · unfold del
      rw [List.filter_cons, if_neg (by simp), List.filter_eq_self.2 fun e he => by simpa using h e he]
    · have ih := del_ins p x r hr
      unfold del at ih ⊢
      rw [List.filter_cons, if_pos (by simpa using hy), ih]
theorem put_put {α : Type} (L : List (Bs × α)) (p : Bs) (x y : α) : put (put L p x) p y = put L p y := by
  unfold put
  rw [del_ins p x (del L p) fun e he => (mem_del.1 he).2]
set_option maxRecDepth 100000 in
set_option maxHeartbeats 2000000 in
theorem rexp_old (R : Nat) (v : Value) (L : Vs) (p : Bs) (how : Int) (w : World) (h : Rf w R v L) (x : Vr) (hf : fnd L p = some x) (h0 : 0 ≤ how) (h2 : how ≤ 2) :
    Calls Try.prog 30 #[.pointer (some ⟨R, 0, none⟩), .string (mk p), .int .i64 how] w fun r w' => r = .returned (.tuple #[]) ∧ RChg w w' R v v (put L p { x with exp := how }) := by
  have q : Hid (∀ W, Below w.heap.size w W → Calls Try.prog 32 #[.pointer (some ⟨R, 0, none⟩), .string (mk p)] W fun r w' => ∃ k : Nat, r = .returned (.tuple #[.int .i64 k, .bool true]) ∧ AtK L p k ∧ Below W.heap.size W w') := fun W hW => by
    have := rat_any R v L p W (h.below hW)
    rw [hf] at this
    exact this
  have H := hide' h
  clear h
  have i1 : ¬ how < 0 := by omega
  have i2 : ¬ 2 < how := by omega
  have HF := hide' hf
  clear hf
  go_enter Try.func30, Try.ntmps30
  go_wp2_with fail
  refine (q.out _ (Below.refl _ _)).mono ?_
  rintro r w1 ⟨k', rfl, _, hb1⟩
  have HB1 := hide' hb1
  clear hb1
  go_wp2_with fail
  refine (q.out _ HB1.out).mono ?_
  rintro r w2 ⟨k, rfl, hk, hb2⟩
  have hB2 : Below w.heap.size w w2 := HB1.out.trans (hb2.mono HB1.out.size)
  have hr2 := H.out.below hB2
  have hLk := hk.found HF.out hr2.srt
  obtain ⟨g, cap, rfl, hc, hkl, ⟨cur, hgc⟩, hcell⟩ := hr2.at hLk
  have hnx : x.name = p := hr2.nm _ (List.mem_of_getElem? hLk)
  have hgR := hr2.ne g rfl
  have hR2 := hr2.rb
  obtain ⟨xn, xv, xf, xo, xe⟩ := x
  simp only at hnx
  subst hnx
  have hvk : (L.map (·.2))[k]? = some ⟨xn, xv, xf, xo, xe⟩ := by rw [List.getElem?_map, hLk]; rfl
  have o1 := VOwn.set hr2.row hvk 4 (by omega) (.int .i64 how) ⟨xn, xv, xf, xo, how⟩ rfl
  have c0 := hR2.c0
  have d4 := hcell 4 _ rfl
  have z := fun j => Lib.frozen_of_heap hgc j
  have k1 : (k : Int) < L.length := by omega
  have hcn := hr2.cnt
  have HB := hide' hB2
  have O1 := hide' o1
  have HK := hide' hLk
  clear hb2 q hcell hr2 hk o1 hvk hLk hgc hB2
  go_wp2
  go_end0
  refine ⟨rfl, RChg.after HB.out ⟨?_, ?_, fun _ e => .inl e⟩⟩
  · have hpf := put_found H.out.srt HK.out ⟨xn, xv, xf, xo, how⟩
    refine Rf.put H.out rfl (by rw [hpf, List.length_set]; exact hcn) ?_ (by rw [hpf, set_map]; exact O1.out)
    exact (Below.heap_setCell _ _ _ _ (by simpa using hgR.symm)).trans hR2
  · exact (Turn.refl _ _).setCell (.inl (.inr rfl)) _
set_option maxRecDepth 100000 in
set_option maxHeartbeats 2000000 in
theorem rexp_new (R : Nat) (v : Value) (L : Vs) (p : Bs) (how : Int) (w : World) (h : Rf w R v L) (hf : fnd L p = none) (h0 : 0 ≤ how) (h2 : how ≤ 2) (hc : L.length < 1000) :
    Calls Try.prog 30 #[.pointer (some ⟨R, 0, none⟩), .string (mk p), .int .i64 how] w fun r w' => r = .returned (.tuple #[]) ∧ ∃ v', RChg w w' R v v' (put L p ⟨p, [], 1, 3, how⟩) := by
  have q := rat_any R v L p w h
  rw [hf] at q
  dsimp only [Option.isSome] at q
  have q2 : Hid (∀ W, Below w.heap.size w W → Calls Try.prog 17 #[.pointer (some ⟨R, 0, none⟩), .string (mk p), .string ⟨#[]⟩, .int .i64 1, .int .i64 3] W fun r w' => r = .returned (.bool true) ∧ ∃ v', RChg w w' R v v' (put L p ⟨p, [], 1, 3, 0⟩)) := fun W hW => by
    refine (rset_new R v L p [] 1 3 W (h.below hW) hf hc).mono ?_
    rintro r w' ⟨rfl, v', hc⟩
    exact ⟨rfl, v', RChg.after hW hc⟩
  clear h hf
  have i1 : ¬ how < 0 := by omega
  have i2 : ¬ 2 < how := by omega
  go_enter Try.func30, Try.ntmps30
  go_wp2_with fail
  refine q.mono ?_
  rintro r w1 ⟨k', rfl, _, hb1⟩
  have HB1 := hide' hb1
  clear hb1 q
  go_wp2_with fail
  refine (q2.out _ HB1.out).mono ?_
  rintro r w3 ⟨rfl, v3, hch⟩
  have q3 := rat_any R v3 _ p w3 hch.rf
  rw [fnd_put_same] at q3
  dsimp only [Option.isSome] at q3
  have HCH := hide' hch
  clear hch q2
  go_wp2_with fail
  refine q3.mono ?_
  rintro r w2 ⟨k, rfl, hk, hb2⟩
  have hr2 := HCH.out.rf.below hb2
  have hLk := hk.found (fnd_put_same L p ⟨p, [], 1, 3, 0⟩) hr2.srt
  obtain ⟨L1, hL1⟩ : ∃ L1, L1 = put L p ⟨p, [], 1, 3, 0⟩ := ⟨_, rfl⟩
  have HL1 := hide' hL1
  rw [← hL1] at hLk hr2
  rw [← hL1] at HCH
  obtain ⟨g, cap, rfl, hcc, hkl, ⟨cur, hgc⟩, hcell⟩ := hr2.at hLk
  have hgR := hr2.ne g rfl
  have hR2 := hr2.rb
  have hvk : (L1.map (·.2))[k]? = some ⟨p, [], 1, 3, 0⟩ := by rw [List.getElem?_map, hLk]; rfl
  have o1 := VOwn.set hr2.row hvk 4 (by omega) (.int .i64 how) ⟨p, [], 1, 3, how⟩ rfl
  have c0 := hR2.c0
  have d4 := hcell 4 _ rfl
  have z := fun j => Lib.frozen_of_heap hgc j
  have k1 : (k : Int) < L1.length := by omega
  have hcn := hr2.cnt
  have HB := hide' hb2
  have O1 := hide' o1
  have HK := hide' hLk
  clear hb2 q3 hcell hr2 hk o1 hvk hLk hgc hL1
  go_wp2
  go_end0
  refine ⟨rfl, _, HCH.out.trans (RChg.after HB.out (v' := .slice (some ⟨g, 0, none⟩) L1.length cap) ⟨?_, ?_, fun _ e => .inl e⟩)⟩
  · have hpf := put_found HCH.out.rf.srt HK.out ⟨p, [], 1, 3, how⟩
    have hpp : put L p ⟨p, [], 1, 3, how⟩ = put L1 p ⟨p, [], 1, 3, how⟩ := by rw [HL1.out, put_put]
    rw [hpp]
    refine Rf.put HCH.out.rf rfl (by rw [hpf, List.length_set]; exact hcn) ?_ (by rw [hpf, set_map]; exact O1.out)
    exact (Below.heap_setCell _ _ _ _ (by simpa using hgR.symm)).trans hR2
  · exact (Turn.refl _ _).setCell (.inl (.inr rfl)) _
set_option maxRecDepth 100000 in
theorem rexp_full (R : Nat) (v : Value) (L : Vs) (p : Bs) (how : Int) (w : World) (h : Rf w R v L) (hf : fnd L p = none) (h0 : 0 ≤ how) (h2 : how ≤ 2) (hc : 1000 ≤ L.length) :
    Calls Try.prog 30 #[.pointer (some ⟨R, 0, none⟩), .string (mk p), .int .i64 how] w fun r w' => r = .returned (.tuple #[]) ∧ Below w.heap.size w w' := by
  have q := rat_any R v L p w h
  rw [hf] at q
  dsimp only [Option.isSome] at q
  have q2 : Hid (∀ W, Below w.heap.size w W → Calls Try.prog 17 #[.pointer (some ⟨R, 0, none⟩), .string (mk p), .string ⟨#[]⟩, .int .i64 1, .int .i64 3] W fun r w' => r = .returned (.bool false) ∧ Below w.heap.size w w') := fun W hW => by
    refine (rset_full R v L p [] 1 3 W (h.below hW) hf hc).mono ?_
    rintro r w' ⟨rfl, hb⟩
    exact ⟨rfl, hW.trans (hb.mono hW.size)⟩
  clear h hf
  have i1 : ¬ how < 0 := by omega
  have i2 : ¬ 2 < how := by omega
  go_enter Try.func30, Try.ntmps30
  go_wp2_with fail
  refine q.mono ?_
  rintro r w1 ⟨k', rfl, _, hb1⟩
  have HB1 := hide' hb1
  clear hb1 q
  go_wp2_with fail
  refine (q2.out _ HB1.out).mono ?_
  rintro r w3 ⟨rfl, hb3⟩
  go_wp2
  refine bodyPost_ret (by simp [results, Try.results30, go_sem]; rfl) rfl ?_
  exact ⟨rfl, hb3⟩
theorem rexp_any (R : Nat) (v : Value) (L : Vs) (p : Bs) (how : Int) (w : World) (h : Rf w R v L) :
    Calls Try.prog 30 #[.pointer (some ⟨R, 0, none⟩), .string (mk p), .int .i64 how] w fun r w' => r = .returned (.tuple #[]) ∧ ∃ v', RChg w w' R v v' (expL L p how) := by
  by_cases hh : how < 0 ∨ 2 < how
  · unfold expL
    rw [if_pos hh]
    have H := hide' h
    clear h
    by_cases h0 : how < 0
    · go_enter Try.func30, Try.ntmps30
      go_wp2
      refine bodyPost_ret (by simp [results, Try.results30, go_sem]; rfl) rfl ?_
      exact ⟨rfl, v, RChg.same H.out (Below.refl _ _)⟩
    · have h1 : 2 < how := by omega
      go_enter Try.func30, Try.ntmps30
      go_wp2
      refine bodyPost_ret (by simp [results, Try.results30, go_sem]; rfl) rfl ?_
      exact ⟨rfl, v, RChg.same H.out (Below.refl _ _)⟩
  · unfold expL
    rw [if_neg hh]
    cases hf : fnd L p with
    | some x =>
      have hn : x.name = p := h.nm _ (fnd_mem hf)
      have hr : room L p = true := by unfold room; rw [hf]; rfl
      unfold putIf
      rw [getV_some hf]
      simp only [Option.isSome_some, if_true]
      rw [hn, hr, if_pos rfl]
      refine (rexp_old R v L p how w h x hf (by omega) (by omega)).mono ?_
      rintro r w' ⟨rfl, hc⟩
      rw [hn] at hc
      exact ⟨rfl, v, hc⟩
    | none =>
      unfold putIf
      simp only [Option.isSome_none, Bool.false_eq_true, if_false]
      by_cases hc : L.length < 1000
      · have hr : room L p = true := by unfold room; rw [hf]; simpa using hc
        rw [hr, if_pos rfl]
        exact rexp_new R v L p how w h hf (by omega) (by omega) hc
      · have hr : room L p = false := by unfold room; rw [hf]; simpa using hc
        rw [hr, if_neg (by simp)]
        refine (rexp_full R v L p how w h hf (by omega) (by omega) (by omega)).mono ?_
        rintro r w' ⟨rfl, hb⟩
        exact ⟨rfl, v, RChg.same h hb⟩
end Go.Proofs.Ytillechackcbpaa
