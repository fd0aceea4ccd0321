/- The contract of the reference's Take. -/
import Derived.Test.YtchnimlnoolkiaaGreatDoorRT0
import Derived.Test.YtchnimlnoolkiaaGreatDoorRT1
import Derived.Test.YtchnimlnoolkiaaGreatDoorRT2
import Derived.Test.YtchnimlnoolkiaaGreatDoorTake
namespace Go.Proofs.YtchnimlnoolkiaaGreatDoor
open Go.RowKit Go.Shelf

theorem pre_cons (c : UInt8) (l p : Bs) : Lib.hasPrefix (c :: l) (c :: p) = Lib.hasPrefix l p := by unfold Lib.hasPrefix; simp [List.isPrefixOf]
theorem drop_ext (s : ByteArray) (a : Nat) : tl (s.extract a s.size) = (tl s).drop a := by rw [ext_drop, tl_mk]
set_option maxRecDepth 100000 in
set_option maxHeartbeats 4000000 in
theorem rtake_any (s : ByteArray) (hs : s.size ≤ 100000) (w : World) : Calls Tryz.prog 9 #[.string s] w fun e w' => e = .returned (hv (takeB s)) ∧ Below w.heap.size w w' := by
  have kS : ∀ w, Calls Tryz.prog 25 #[.string s, .string ⟨#[61, 58]⟩] w fun e w' => e = .returned (.int .i64 (clI (scn [61, 58] (tl s) (s.size + 1) 0))) ∧ w' = w := fun w => rscan_any s ⟨#[61, 58]⟩ hs (by decide) w
  cases hq : scn [61, 58] (tl s) (s.size + 1) 0 with
  | none =>
    have hx := bx8_new w
    have hB : Below w.heap.size w (w.alloc (.cells #[.int .i64 0, .string ⟨#[]⟩, .string ⟨#[]⟩, .string ⟨#[]⟩, .string ⟨#[]⟩, .int .i64 0, .bool false, .bool false] 24)) := (Below.refl _ w).alloc (Nat.le_refl _) _
    generalize hW : w.alloc (.cells #[.int .i64 0, .string ⟨#[]⟩, .string ⟨#[]⟩, .string ⟨#[]⟩, .string ⟨#[]⟩, .int .i64 0, .bool false, .bool false] 24) = W at hx hB
    have HW := hide' hW
    clear hW
    have hT : takeB s = ⟨0, s, nil, nil, nil, 0, false, false⟩ := by unfold takeB; rw [hq]
    rw [hT]
    rw [hq] at kS
    simp only [clI] at kS
    clear hT hq
    have cc0 := hx.c0
    have cf0 := hx.fz 0
    have cc1 := hx.c1
    have cf1 := hx.fz 1
    have cc2 := hx.c2
    have cf2 := hx.fz 2
    have cc3 := hx.c3
    have cf3 := hx.fz 3
    have cc4 := hx.c4
    have cf4 := hx.fz 4
    have cc5 := hx.c5
    have cf5 := hx.fz 5
    have cc6 := hx.c6
    have cf6 := hx.fz 6
    have cc7 := hx.c7
    have cf7 := hx.fz 7
    have HX := hide' hx
    clear hx
    go_enter Tryz.func9, Tryz.ntmps9
    go_upto_region 1 with fail
    rw [HW.out]
    go_wp2_with (go_at_call 25; refine (kS _).mono ?_; rintro e w1 ⟨rfl, rfl⟩)
    have hx9 := HX.out.set (k' := 0) (l' := s) (r' := ⟨#[]⟩) (n' := ⟨#[]⟩) (c' := ⟨#[]⟩) (s' := 0) (d' := false) (h' := false)
    have e0 := hx9.c0
    have e1 := hx9.c1
    have e2 := hx9.c2
    have e3 := hx9.c3
    have e4 := hx9.c4
    have e5 := hx9.c5
    have e6 := hx9.c6
    have e7 := hx9.c7
    refine bodyPost_ret (by simp [results, Tryz.results9, go_sem, e0, e1, e2, e3, e4, e5, e6, e7]; rfl) rfl ?_
    exact ⟨rfl, put8_below hB (Nat.le_refl _) _ _ _ _ _ _ _ _⟩
  | some q =>
    obtain ⟨hql, hqs⟩ := scn_is _ _ _ _ _ hq
    rw [tl_len] at hql
    have hg := getD_at s q hql
    rw [hg] at hqs
    rw [hq] at kS
    simp only [clI] at kS
    have kE := fun w => sets_any s q (by omega) hql w
    cases hgo : setB s q with
    | true =>
      have kA := fun w => asd_any s q hs hql hgo w
      have hT : takeB s = asB s q := by unfold takeB; rw [hq]; simp only; rw [hgo, if_pos rfl]
      rw [hT]
      rw [hgo] at kE
      generalize asB s q = H at kA
      obtain ⟨Hk, Hl, Hr, Hn, Hc, Hs, Hdd, Hh⟩ := H
      simp only [hv] at kA
      clear hT hq hqs hg hgo hs
      have hx := bx8_new w
      have hB : Below w.heap.size w (w.alloc (.cells #[.int .i64 0, .string ⟨#[]⟩, .string ⟨#[]⟩, .string ⟨#[]⟩, .string ⟨#[]⟩, .int .i64 0, .bool false, .bool false] 24)) := (Below.refl _ w).alloc (Nat.le_refl _) _
      generalize hW : w.alloc (.cells #[.int .i64 0, .string ⟨#[]⟩, .string ⟨#[]⟩, .string ⟨#[]⟩, .string ⟨#[]⟩, .int .i64 0, .bool false, .bool false] 24) = W at hx hB
      have HW := hide' hW
      clear hW
      go_enter Tryz.func9, Tryz.ntmps9
      go_upto_region 1 with fail
      rw [HW.out]
      go_wp2_with (first | (go_at_call 25; refine (kS _).mono ?_; rintro e w1 ⟨rfl, rfl⟩) | (go_at_call 26; refine (kE _).mono ?_; rintro e w2 ⟨rfl, rfl⟩) | (go_at_call 27; refine (kA _).mono ?_; rintro e w3 ⟨rfl, hb3⟩; have hx3 := hx.below hb3; have cc0 := hx3.c0; have cf0 := hx3.fz 0; have cc1 := hx3.c1; have cf1 := hx3.fz 1; have cc2 := hx3.c2; have cf2 := hx3.fz 2; have cc3 := hx3.c3; have cf3 := hx3.fz 3; have cc4 := hx3.c4; have cf4 := hx3.fz 4; have cc5 := hx3.c5; have cf5 := hx3.fz 5; have cc6 := hx3.c6; have cf6 := hx3.fz 6; have cc7 := hx3.c7; have cf7 := hx3.fz 7; have HX := hide' hx3; clear hx3))
      have hx9 := HX.out.set (k' := Hk) (l' := Hl) (r' := Hr) (n' := Hn) (c' := Hc) (s' := Hs) (d' := Hdd) (h' := Hh)
      have e0 := hx9.c0
      have e1 := hx9.c1
      have e2 := hx9.c2
      have e3 := hx9.c3
      have e4 := hx9.c4
      have e5 := hx9.c5
      have e6 := hx9.c6
      have e7 := hx9.c7
      refine bodyPost_ret (by simp [results, Tryz.results9, go_sem, e0, e1, e2, e3, e4, e5, e6, e7]; rfl) rfl ?_
      exact ⟨rfl, put8_below (hB.trans (hb3.mono hB.size)) (Nat.le_refl _) _ _ _ _ _ _ _ _⟩
    | false =>
      have hst : setB s q = ((sepP ((tl s).drop q)).2 || (s[q] == 61)) := by unfold setB; rw [hg]
      rw [hgo] at hst
      have hn := hst.symm
      rw [Bool.or_eq_false_iff] at hn
      have h61 : ¬ s[q] = 61 := beq_eq_false_iff_ne.1 hn.2
      have h58 : s[q] = 58 := by
        unfold stp at hqs
        rw [Bool.and_eq_true] at hqs
        have hm : s[q] ∈ ([61, 58] : Bs) := List.contains_iff_mem.1 hqs.2
        rcases (by simpa using hm : s[q] = 61 ∨ s[q] = 58) with h | h
        · exact absurd h h61
        · exact h
      have hdq : (tl s).drop q = 58 :: (tl s).drop (q + 1) := by rw [drop_at s q hql, h58]
      have hno : Lib.hasPrefix ((tl s).drop q) [58, 58, 61] = false ∧ Lib.hasPrefix ((tl s).drop q) [58, 61] = false := by
        have := hn.1
        rw [sep_simple, Bool.or_eq_false_iff] at this
        exact ⟨this.2, this.1⟩
      have hn6 : Lib.hasPrefix ((tl s).drop q) [61] = false := by
        rw [hdq]
        rfl
      have hsp : sepP ((tl s).drop q) = if Lib.hasPrefix ((tl s).drop (q + 1)) [58] then (2, false) else (1, false) := by
        unfold sepP
        rw [hno.1, hno.2, hn6, hdq, pre_cons]
        rfl
      have hT : takeB s = ⟨(rhB (s.extract (q + (sepP ((tl s).drop q)).1) s.size)).k, s.extract 0 q, (rhB (s.extract (q + (sepP ((tl s).drop q)).1) s.size)).r, (rhB (s.extract (q + (sepP ((tl s).drop q)).1) s.size)).n, (rhB (s.extract (q + (sepP ((tl s).drop q)).1) s.size)).c, (rhB (s.extract (q + (sepP ((tl s).drop q)).1) s.size)).s, decide (1 < (sepP ((tl s).drop q)).1), (rhB (s.extract (q + (sepP ((tl s).drop q)).1) s.size)).h⟩ := by
        unfold takeB
        rw [hq]
        simp only
        rw [hgo, if_neg (by decide)]
      rw [hT]
      rw [hgo] at kE
      have sL := sl_to s q (by omega)
      have sF := sl_from s (q + 1) (by omega)
      rw [show ((q + 1 : Nat) : Int) = (q : Int) + 1 by omega] at sF
      have hde := drop_ext s (q + 1)
      have hEs : (s.extract (q + 1) s.size).size = s.size - (q + 1) := by rw [ByteArray.size_extract]; omega
      have hE2 : q + 2 ≤ s.size → (s.extract (q + 1) s.size).extract 1 (s.extract (q + 1) s.size).size = s.extract (q + 2) s.size := fun _ => tl_inj _ _ (by rw [drop_ext, drop_ext, drop_ext, List.drop_drop])
      rw [← hde] at hsp
      clear hT hq hqs hg hgo hst hn h61 h58 hdq hno hn6 hde
      generalize hE1 : s.extract (q + 1) s.size = E1 at sF hEs hE2 hsp
      by_cases h0 : E1.size = 0
      · have hf : Lib.hasPrefix (tl E1) [58] = false := by
          have : tl E1 = [] := List.length_eq_zero_iff.1 (by rw [tl_len]; exact h0)
          rw [this]
          rfl
        rw [hf] at hsp
        simp only [Bool.false_eq_true, if_false] at hsp
        rw [hsp]
        simp only
        rw [hE1]
        exact rt_0 s (s.extract 0 q) E1 E1 q hql hs (by omega) h0 rfl kS kE sL sF w
      · have hp : 0 < E1.size := by omega
        have hd := drop_at E1 0 hp
        rw [List.drop_zero] at hd
        by_cases h1 : E1[0] = 58
        · have hf : Lib.hasPrefix (tl E1) [58] = true := by
            rw [hd, h1]
            unfold Lib.hasPrefix
            simp [List.isPrefixOf]
          rw [hf] at hsp
          simp only [if_true] at hsp
          rw [hsp]
          simp only
          have hE3 := hE2 (by omega)
          have sE : ∀ W, (Instr.slice 9 (.string E1) (some (.int .i64 1)) none none).run Tryz.prog W = .ok (.string (s.extract (q + 2) s.size)) W := fun W => by
            have := sl_from E1 1 (by omega) W
            rw [hE3] at this
            exact this
          exact rt_2 s (s.extract 0 q) E1 (s.extract (q + 2) s.size) q hql hs (by rw [ByteArray.size_extract]; omega) hp h1 sE kS kE sL sF w
        · have hf : Lib.hasPrefix (tl E1) [58] = false := by
            rw [Bool.eq_false_iff]
            intro h
            rw [hd] at h
            obtain ⟨r, hr⟩ := List.isPrefixOf_iff_prefix.1 h
            have := congrArg List.head? hr
            exact h1 (by simpa using this.symm)
          rw [hf] at hsp
          simp only [Bool.false_eq_true, if_false] at hsp
          rw [hsp]
          simp only
          rw [hE1]
          exact rt_1 s (s.extract 0 q) E1 E1 q hql hs (by omega) hp h1 rfl kS kE sL sF w
end Go.Proofs.YtchnimlnoolkiaaGreatDoor
