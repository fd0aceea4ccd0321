/- The reference's Take, where a rule's separator stands: way 1. -/
import Derived.Test.YtchnimlnoolkiaaGreatDoorAsd
import Derived.Test.YtchnimlnoolkiaaGreatDoorRHd
import Derived.Test.YtchnimlnoolkiaaGreatDoorRscan
import Derived.Test.YtchnimlnoolkiaaGreatDoorTr
namespace Go.Proofs.YtchnimlnoolkiaaGreatDoor
open Go.RowKit Go.Shelf

set_option maxRecDepth 100000 in
set_option maxHeartbeats 8000000 in
theorem rt_1 (s L E1 B : ByteArray) (q : Nat) (hql : q < s.size) (hs : s.size ≤ 100000) (hBs : B.size ≤ 100000) (h0 : 0 < E1.size) (h1 : ¬ E1[0] = 58) (hEB : E1 = B)
    (kS : ∀ w, Calls Tryz.prog 25 #[.string s, .string ⟨#[61, 58]⟩] w fun e w' => e = .returned (.int .i64 q) ∧ w' = w)
    (kE : ∀ w, Calls Tryz.prog 26 #[.string s, .int .i64 q] w fun e w' => e = .returned (.bool false) ∧ w' = w)
    (sL : ∀ W, (Instr.slice 9 (.string s) none (some (.int .i64 q)) none).run Tryz.prog W = .ok (.string L) W)
    (sF : ∀ W, (Instr.slice 9 (.string s) (some (.int .i64 ((q : Int) + 1))) none none).run Tryz.prog W = .ok (.string E1) W) (w : World) :
    Calls Tryz.prog 9 #[.string s] w fun e w' => e = .returned (hv ⟨(rhB B).k, L, (rhB B).r, (rhB B).n, (rhB B).c, (rhB B).s, false, (rhB B).h⟩) ∧ Below w.heap.size w w' := by
  have hx := bx8_new w
  have hB : Below w.heap.size w (w.alloc (.cells #[.int .i64 0, .string ⟨#[]⟩, .string ⟨#[]⟩, .string ⟨#[]⟩, .string ⟨#[]⟩, .int .i64 0, .bool false, .bool false] 24)) := (Below.refl _ w).alloc (Nat.le_refl _) _
  generalize hW : w.alloc (.cells #[.int .i64 0, .string ⟨#[]⟩, .string ⟨#[]⟩, .string ⟨#[]⟩, .string ⟨#[]⟩, .int .i64 0, .bool false, .bool false] 24) = W at hx hB
  have HW := hide' hW
  clear hW
  have hw1 : IntKind.i64.wrap ((q : Int) + 1) = (q : Int) + 1 := i64_id _ ⟨by omega, by omega⟩
  have d5 : decide ((0 : Int) < (E1.size : Int)) = true := decide_eq_true (by omega)
  have d6 : (0 : Int) < (E1.size : Int) := by omega
  have d7 : ((E1[0].toNat : Int) == 58) = false := beq_no _ 58 58 rfl h1
  have d8 : ¬ (E1[0].toNat : Int) = 58 := fun h => h1 (UInt8.toNat_inj.1 (by have e9 : (58 : UInt8).toNat = 58 := rfl; omega))
  clear h1
  subst hEB
  have kS3 : ∀ w, Calls Tryz.prog 25 #[.string E1, .string ⟨#[61, 58, 59]⟩] w fun e w' => e = .returned (.int .i64 (clI (scn [61, 58, 59] (tl E1) (E1.size + 1) 0))) ∧ w' = w := fun w => rscan_any E1 ⟨#[61, 58, 59]⟩ hBs (by decide) w
  cases hp : scn [61, 58, 59] (tl E1) (E1.size + 1) 0 with
  | none =>
    have hO : scoB E1 = none := by unfold scoB; rw [hp]
    rw [hp] at kS3
    simp only [clI] at kS3
    clear hp
    have kS1 : ∀ w, Calls Tryz.prog 25 #[.string E1, .string ⟨#[59]⟩] w fun e w' => e = .returned (.int .i64 (clI (scn [59] (tl E1) (E1.size + 1) 0))) ∧ w' = w := fun w => rscan_any E1 ⟨#[59]⟩ hBs (by decide) w
    cases hp2 : scn [59] (tl E1) (E1.size + 1) 0 with
    | none =>
      have hR : rhB E1 = ⟨2, nil, E1, nil, nil, 0, false, false⟩ := by unfold rhB; rw [hO]; simp only; rw [hp2]
      rw [hR]
      rw [hp2] at kS1
      simp only [clI] at kS1
      clear hR hp2 hO
      go_enter Tryz.func9, Tryz.ntmps9
      go_upto_region 1 with fail
      rw [HW.out]
      go_wp2_with fail
      refine (kS _).mono ?_
      rintro e w1 ⟨rfl, rfl⟩
      go_wp2_with fail
      refine (kE _).mono ?_
      rintro e w2 ⟨rfl, rfl⟩
      go_upto_region 8 with fail
      have hy2 := bx8_at w2 2 L ⟨#[]⟩ ⟨#[]⟩ ⟨#[]⟩ 0 false false
      have hx3 := hx.alloc (.cells #[.int .i64 2, .string L, .string ⟨#[]⟩, .string ⟨#[]⟩, .string ⟨#[]⟩, .int .i64 0, .bool false, .bool false] 24)
      have hlt := hx.lt
      have hB3 := hB.alloc hB.size (.cells #[.int .i64 2, .string L, .string ⟨#[]⟩, .string ⟨#[]⟩, .string ⟨#[]⟩, .int .i64 0, .bool false, .bool false] 24)
      generalize hA : w2.heap.size = A at hy2 hlt
      generalize hW3 : w2.alloc (.cells #[.int .i64 2, .string L, .string ⟨#[]⟩, .string ⟨#[]⟩, .string ⟨#[]⟩, .int .i64 0, .bool false, .bool false] 24) = W3 at hx3 hy2 hB3
      have HW3 := hide' hW3
      have HA := hide' hA
      clear hW3 hx hB hA
      go_upto_region 12 with fail
      have hx4 := hx3
      have hy4 := hy2
      have hB4 := hB3
      clear hx3 hy2 hB3
      have cc0 := hx4.c0
      have cf0 := hx4.fz 0
      have cc1 := hx4.c1
      have cf1 := hx4.fz 1
      have cc2 := hx4.c2
      have cf2 := hx4.fz 2
      have cc3 := hx4.c3
      have cf3 := hx4.fz 3
      have cc4 := hx4.c4
      have cf4 := hx4.fz 4
      have cc5 := hx4.c5
      have cf5 := hx4.fz 5
      have cc6 := hx4.c6
      have cf6 := hx4.fz 6
      have cc7 := hx4.c7
      have cf7 := hx4.fz 7
      have yc0 := hy4.c0
      have yf0 := hy4.fz 0
      have yc1 := hy4.c1
      have yf1 := hy4.fz 1
      have yc2 := hy4.c2
      have yf2 := hy4.fz 2
      have yc3 := hy4.c3
      have yf3 := hy4.fz 3
      have yc4 := hy4.c4
      have yf4 := hy4.fz 4
      have yc5 := hy4.c5
      have yf5 := hy4.fz 5
      have yc6 := hy4.c6
      have yf6 := hy4.fz 6
      have yc7 := hy4.c7
      have yf7 := hy4.fz 7
      have HX := hide' hx4
      have HY := hide' hy4
      clear hx4 hy4
      go_wp2_with fail
      refine (kS3 _).mono ?_
      rintro e w3 ⟨rfl, rfl⟩
      go_wp2_with fail
      refine (kS1 _).mono ?_
      rintro e w5 ⟨rfl, rfl⟩
      go_wp2
      have hne : w.heap.size ≠ A := by omega
      have hbA : w.heap.size ≤ A := by omega
      have hx9 := (HX.out.other hne 2 (.string E1)).set (k' := 2) (l' := L) (r' := E1) (n' := ⟨#[]⟩) (c' := ⟨#[]⟩) (s' := 0) (d' := false) (h' := false)
      have e0 := hx9.c0
      have e1 := hx9.c1
      have e2 := hx9.c2
      have e3 := hx9.c3
      have e4 := hx9.c4
      have e5 := hx9.c5
      have e6 := hx9.c6
      have e7 := hx9.c7
      refine bodyPost_ret (by simp [results, Tryz.results9, go_sem, e0, e1, e2, e3, e4, e5, e6, e7]; rfl) rfl ?_
      exact ⟨rfl, put8_below (hB4.setCell (p := ⟨A, 2, none⟩) hbA (.string E1)) (Nat.le_refl _) _ _ _ _ _ _ _ _⟩
    | some p2 =>
      obtain ⟨hpl2, _⟩ := scn_is _ _ _ _ _ hp2
      rw [tl_len] at hpl2
      have hR : rhB E1 = ⟨2, nil, E1.extract 0 p2, nil, pb (E1.extract (p2 + 1) E1.size), 0, false, true⟩ := by unfold rhB; rw [hO]; simp only; rw [hp2]
      rw [hR]
      rw [hp2] at kS1
      simp only [clI] at kS1
      have sB := sl_to E1 p2 (by omega)
      have sG := sl_from E1 (p2 + 1) (by omega)
      rw [show ((p2 + 1 : Nat) : Int) = (p2 : Int) + 1 by omega] at sG
      have hw9 : IntKind.i64.wrap ((p2 : Int) + 1) = (p2 : Int) + 1 := i64_id _ ⟨by omega, by omega⟩
      have kL := fun w => left_any (E1.extract (p2 + 1) E1.size) (by rw [ByteArray.size_extract]; omega) w
      rw [show mk ((tl (E1.extract (p2 + 1) E1.size)).dropWhile bl) = pb (E1.extract (p2 + 1) E1.size) from rfl] at kL
      generalize pb (E1.extract (p2 + 1) E1.size) = Pb at kL
      clear hR hp2 hO
      go_enter Tryz.func9, Tryz.ntmps9
      go_upto_region 1 with fail
      rw [HW.out]
      go_wp2_with fail
      refine (kS _).mono ?_
      rintro e w1 ⟨rfl, rfl⟩
      go_wp2_with fail
      refine (kE _).mono ?_
      rintro e w2 ⟨rfl, rfl⟩
      go_upto_region 8 with fail
      have hy2 := bx8_at w2 2 L ⟨#[]⟩ ⟨#[]⟩ ⟨#[]⟩ 0 false false
      have hx3 := hx.alloc (.cells #[.int .i64 2, .string L, .string ⟨#[]⟩, .string ⟨#[]⟩, .string ⟨#[]⟩, .int .i64 0, .bool false, .bool false] 24)
      have hlt := hx.lt
      have hB3 := hB.alloc hB.size (.cells #[.int .i64 2, .string L, .string ⟨#[]⟩, .string ⟨#[]⟩, .string ⟨#[]⟩, .int .i64 0, .bool false, .bool false] 24)
      generalize hA : w2.heap.size = A at hy2 hlt
      generalize hW3 : w2.alloc (.cells #[.int .i64 2, .string L, .string ⟨#[]⟩, .string ⟨#[]⟩, .string ⟨#[]⟩, .int .i64 0, .bool false, .bool false] 24) = W3 at hx3 hy2 hB3
      have HW3 := hide' hW3
      have HA := hide' hA
      clear hW3 hx hB hA
      go_upto_region 12 with fail
      have hx4 := hx3
      have hy4 := hy2
      have hB4 := hB3
      clear hx3 hy2 hB3
      have cc0 := hx4.c0
      have cf0 := hx4.fz 0
      have cc1 := hx4.c1
      have cf1 := hx4.fz 1
      have cc2 := hx4.c2
      have cf2 := hx4.fz 2
      have cc3 := hx4.c3
      have cf3 := hx4.fz 3
      have cc4 := hx4.c4
      have cf4 := hx4.fz 4
      have cc5 := hx4.c5
      have cf5 := hx4.fz 5
      have cc6 := hx4.c6
      have cf6 := hx4.fz 6
      have cc7 := hx4.c7
      have cf7 := hx4.fz 7
      have yc0 := hy4.c0
      have yf0 := hy4.fz 0
      have yc1 := hy4.c1
      have yf1 := hy4.fz 1
      have yc2 := hy4.c2
      have yf2 := hy4.fz 2
      have yc3 := hy4.c3
      have yf3 := hy4.fz 3
      have yc4 := hy4.c4
      have yf4 := hy4.fz 4
      have yc5 := hy4.c5
      have yf5 := hy4.fz 5
      have yc6 := hy4.c6
      have yf6 := hy4.fz 6
      have yc7 := hy4.c7
      have yf7 := hy4.fz 7
      have HX := hide' hx4
      have HY := hide' hy4
      clear hx4 hy4
      go_wp2_with fail
      refine (kS3 _).mono ?_
      rintro e w3 ⟨rfl, rfl⟩
      go_wp2_with fail
      refine (kS1 _).mono ?_
      rintro e w5 ⟨rfl, rfl⟩
      go_wp2_with (go_at_call 28; refine (kL _).mono ?_; rintro e w6 ⟨rfl, rfl⟩)
      have hne : w.heap.size ≠ A := by omega
      have hbA : w.heap.size ≤ A := by omega
      have hx9 := ((((HX.out.other hne 2 (.string E1)).other hne 2 (.string (E1.extract 0 p2))).other hne 7 (.bool true)).other hne 4 (.string Pb)).set (k' := 2) (l' := L) (r' := (E1.extract 0 p2)) (n' := ⟨#[]⟩) (c' := Pb) (s' := 0) (d' := false) (h' := true)
      have e0 := hx9.c0
      have e1 := hx9.c1
      have e2 := hx9.c2
      have e3 := hx9.c3
      have e4 := hx9.c4
      have e5 := hx9.c5
      have e6 := hx9.c6
      have e7 := hx9.c7
      refine bodyPost_ret (by simp [results, Tryz.results9, go_sem, e0, e1, e2, e3, e4, e5, e6, e7]; rfl) rfl ?_
      exact ⟨rfl, put8_below ((((hB4.setCell (p := ⟨A, 2, none⟩) hbA (.string E1)).setCell (p := ⟨A, 2, none⟩) hbA (.string (E1.extract 0 p2))).setCell (p := ⟨A, 7, none⟩) hbA (.bool true)).setCell (p := ⟨A, 4, none⟩) hbA (.string Pb)) (Nat.le_refl _) _ _ _ _ _ _ _ _⟩
  | some p =>
    obtain ⟨hpl, _⟩ := scn_is _ _ _ _ _ hp
    rw [tl_len] at hpl
    have hg := getD_at E1 p hpl
    rw [hp] at kS3
    simp only [clI] at kS3
    by_cases h59 : E1[p] = 59
    · have hO : scoB E1 = none := by unfold scoB; rw [hp]; simp only; rw [hg, if_pos h59]
      have g1 : ((E1[p].toNat : Int) != 59) = false := bne_no _ 59 59 rfl h59
      have g2 : (E1[p].toNat : Int) = 59 := by rw [h59]; rfl
      clear hp hg h59
      have kS1 : ∀ w, Calls Tryz.prog 25 #[.string E1, .string ⟨#[59]⟩] w fun e w' => e = .returned (.int .i64 (clI (scn [59] (tl E1) (E1.size + 1) 0))) ∧ w' = w := fun w => rscan_any E1 ⟨#[59]⟩ hBs (by decide) w
      cases hp2 : scn [59] (tl E1) (E1.size + 1) 0 with
      | none =>
        have hR : rhB E1 = ⟨2, nil, E1, nil, nil, 0, false, false⟩ := by unfold rhB; rw [hO]; simp only; rw [hp2]
        rw [hR]
        rw [hp2] at kS1
        simp only [clI] at kS1
        clear hR hp2 hO
        go_enter Tryz.func9, Tryz.ntmps9
        go_upto_region 1 with fail
        rw [HW.out]
        go_wp2_with fail
        refine (kS _).mono ?_
        rintro e w1 ⟨rfl, rfl⟩
        go_wp2_with fail
        refine (kE _).mono ?_
        rintro e w2 ⟨rfl, rfl⟩
        go_upto_region 8 with fail
        have hy2 := bx8_at w2 2 L ⟨#[]⟩ ⟨#[]⟩ ⟨#[]⟩ 0 false false
        have hx3 := hx.alloc (.cells #[.int .i64 2, .string L, .string ⟨#[]⟩, .string ⟨#[]⟩, .string ⟨#[]⟩, .int .i64 0, .bool false, .bool false] 24)
        have hlt := hx.lt
        have hB3 := hB.alloc hB.size (.cells #[.int .i64 2, .string L, .string ⟨#[]⟩, .string ⟨#[]⟩, .string ⟨#[]⟩, .int .i64 0, .bool false, .bool false] 24)
        generalize hA : w2.heap.size = A at hy2 hlt
        generalize hW3 : w2.alloc (.cells #[.int .i64 2, .string L, .string ⟨#[]⟩, .string ⟨#[]⟩, .string ⟨#[]⟩, .int .i64 0, .bool false, .bool false] 24) = W3 at hx3 hy2 hB3
        have HW3 := hide' hW3
        have HA := hide' hA
        clear hW3 hx hB hA
        go_upto_region 12 with fail
        have hx4 := hx3
        have hy4 := hy2
        have hB4 := hB3
        clear hx3 hy2 hB3
        have cc0 := hx4.c0
        have cf0 := hx4.fz 0
        have cc1 := hx4.c1
        have cf1 := hx4.fz 1
        have cc2 := hx4.c2
        have cf2 := hx4.fz 2
        have cc3 := hx4.c3
        have cf3 := hx4.fz 3
        have cc4 := hx4.c4
        have cf4 := hx4.fz 4
        have cc5 := hx4.c5
        have cf5 := hx4.fz 5
        have cc6 := hx4.c6
        have cf6 := hx4.fz 6
        have cc7 := hx4.c7
        have cf7 := hx4.fz 7
        have yc0 := hy4.c0
        have yf0 := hy4.fz 0
        have yc1 := hy4.c1
        have yf1 := hy4.fz 1
        have yc2 := hy4.c2
        have yf2 := hy4.fz 2
        have yc3 := hy4.c3
        have yf3 := hy4.fz 3
        have yc4 := hy4.c4
        have yf4 := hy4.fz 4
        have yc5 := hy4.c5
        have yf5 := hy4.fz 5
        have yc6 := hy4.c6
        have yf6 := hy4.fz 6
        have yc7 := hy4.c7
        have yf7 := hy4.fz 7
        have HX := hide' hx4
        have HY := hide' hy4
        clear hx4 hy4
        go_wp2_with fail
        refine (kS3 _).mono ?_
        rintro e w3 ⟨rfl, rfl⟩
        go_wp2_with fail
        refine (kS1 _).mono ?_
        rintro e w5 ⟨rfl, rfl⟩
        go_wp2
        have hne : w.heap.size ≠ A := by omega
        have hbA : w.heap.size ≤ A := by omega
        have hx9 := (HX.out.other hne 2 (.string E1)).set (k' := 2) (l' := L) (r' := E1) (n' := ⟨#[]⟩) (c' := ⟨#[]⟩) (s' := 0) (d' := false) (h' := false)
        have e0 := hx9.c0
        have e1 := hx9.c1
        have e2 := hx9.c2
        have e3 := hx9.c3
        have e4 := hx9.c4
        have e5 := hx9.c5
        have e6 := hx9.c6
        have e7 := hx9.c7
        refine bodyPost_ret (by simp [results, Tryz.results9, go_sem, e0, e1, e2, e3, e4, e5, e6, e7]; rfl) rfl ?_
        exact ⟨rfl, put8_below (hB4.setCell (p := ⟨A, 2, none⟩) hbA (.string E1)) (Nat.le_refl _) _ _ _ _ _ _ _ _⟩
      | some p2 =>
        obtain ⟨hpl2, _⟩ := scn_is _ _ _ _ _ hp2
        rw [tl_len] at hpl2
        have hR : rhB E1 = ⟨2, nil, E1.extract 0 p2, nil, pb (E1.extract (p2 + 1) E1.size), 0, false, true⟩ := by unfold rhB; rw [hO]; simp only; rw [hp2]
        rw [hR]
        rw [hp2] at kS1
        simp only [clI] at kS1
        have sB := sl_to E1 p2 (by omega)
        have sG := sl_from E1 (p2 + 1) (by omega)
        rw [show ((p2 + 1 : Nat) : Int) = (p2 : Int) + 1 by omega] at sG
        have hw9 : IntKind.i64.wrap ((p2 : Int) + 1) = (p2 : Int) + 1 := i64_id _ ⟨by omega, by omega⟩
        have kL := fun w => left_any (E1.extract (p2 + 1) E1.size) (by rw [ByteArray.size_extract]; omega) w
        rw [show mk ((tl (E1.extract (p2 + 1) E1.size)).dropWhile bl) = pb (E1.extract (p2 + 1) E1.size) from rfl] at kL
        generalize pb (E1.extract (p2 + 1) E1.size) = Pb at kL
        clear hR hp2 hO
        go_enter Tryz.func9, Tryz.ntmps9
        go_upto_region 1 with fail
        rw [HW.out]
        go_wp2_with fail
        refine (kS _).mono ?_
        rintro e w1 ⟨rfl, rfl⟩
        go_wp2_with fail
        refine (kE _).mono ?_
        rintro e w2 ⟨rfl, rfl⟩
        go_upto_region 8 with fail
        have hy2 := bx8_at w2 2 L ⟨#[]⟩ ⟨#[]⟩ ⟨#[]⟩ 0 false false
        have hx3 := hx.alloc (.cells #[.int .i64 2, .string L, .string ⟨#[]⟩, .string ⟨#[]⟩, .string ⟨#[]⟩, .int .i64 0, .bool false, .bool false] 24)
        have hlt := hx.lt
        have hB3 := hB.alloc hB.size (.cells #[.int .i64 2, .string L, .string ⟨#[]⟩, .string ⟨#[]⟩, .string ⟨#[]⟩, .int .i64 0, .bool false, .bool false] 24)
        generalize hA : w2.heap.size = A at hy2 hlt
        generalize hW3 : w2.alloc (.cells #[.int .i64 2, .string L, .string ⟨#[]⟩, .string ⟨#[]⟩, .string ⟨#[]⟩, .int .i64 0, .bool false, .bool false] 24) = W3 at hx3 hy2 hB3
        have HW3 := hide' hW3
        have HA := hide' hA
        clear hW3 hx hB hA
        go_upto_region 12 with fail
        have hx4 := hx3
        have hy4 := hy2
        have hB4 := hB3
        clear hx3 hy2 hB3
        have cc0 := hx4.c0
        have cf0 := hx4.fz 0
        have cc1 := hx4.c1
        have cf1 := hx4.fz 1
        have cc2 := hx4.c2
        have cf2 := hx4.fz 2
        have cc3 := hx4.c3
        have cf3 := hx4.fz 3
        have cc4 := hx4.c4
        have cf4 := hx4.fz 4
        have cc5 := hx4.c5
        have cf5 := hx4.fz 5
        have cc6 := hx4.c6
        have cf6 := hx4.fz 6
        have cc7 := hx4.c7
        have cf7 := hx4.fz 7
        have yc0 := hy4.c0
        have yf0 := hy4.fz 0
        have yc1 := hy4.c1
        have yf1 := hy4.fz 1
        have yc2 := hy4.c2
        have yf2 := hy4.fz 2
        have yc3 := hy4.c3
        have yf3 := hy4.fz 3
        have yc4 := hy4.c4
        have yf4 := hy4.fz 4
        have yc5 := hy4.c5
        have yf5 := hy4.fz 5
        have yc6 := hy4.c6
        have yf6 := hy4.fz 6
        have yc7 := hy4.c7
        have yf7 := hy4.fz 7
        have HX := hide' hx4
        have HY := hide' hy4
        clear hx4 hy4
        go_wp2_with fail
        refine (kS3 _).mono ?_
        rintro e w3 ⟨rfl, rfl⟩
        go_wp2_with fail
        refine (kS1 _).mono ?_
        rintro e w5 ⟨rfl, rfl⟩
        go_wp2_with (go_at_call 28; refine (kL _).mono ?_; rintro e w6 ⟨rfl, rfl⟩)
        have hne : w.heap.size ≠ A := by omega
        have hbA : w.heap.size ≤ A := by omega
        have hx9 := ((((HX.out.other hne 2 (.string E1)).other hne 2 (.string (E1.extract 0 p2))).other hne 7 (.bool true)).other hne 4 (.string Pb)).set (k' := 2) (l' := L) (r' := (E1.extract 0 p2)) (n' := ⟨#[]⟩) (c' := Pb) (s' := 0) (d' := false) (h' := true)
        have e0 := hx9.c0
        have e1 := hx9.c1
        have e2 := hx9.c2
        have e3 := hx9.c3
        have e4 := hx9.c4
        have e5 := hx9.c5
        have e6 := hx9.c6
        have e7 := hx9.c7
        refine bodyPost_ret (by simp [results, Tryz.results9, go_sem, e0, e1, e2, e3, e4, e5, e6, e7]; rfl) rfl ?_
        exact ⟨rfl, put8_below ((((hB4.setCell (p := ⟨A, 2, none⟩) hbA (.string E1)).setCell (p := ⟨A, 2, none⟩) hbA (.string (E1.extract 0 p2))).setCell (p := ⟨A, 7, none⟩) hbA (.bool true)).setCell (p := ⟨A, 4, none⟩) hbA (.string Pb)) (Nat.le_refl _) _ _ _ _ _ _ _ _⟩
    · have g1 : ((E1[p].toNat : Int) != 59) = true := bne_yes _ 59 59 rfl h59
      have g2 : ¬ (E1[p].toNat : Int) = 59 := fun h => h59 (UInt8.toNat_inj.1 (by have e9 : (59 : UInt8).toNat = 59 := rfl; omega))
      have kE2 := fun w => sets_any E1 p (by omega) hpl w
      cases hgo : setB E1 p with
      | false =>
        have hO : scoB E1 = none := by unfold scoB; rw [hp]; simp only; rw [hg, if_neg h59, hgo]; rfl
        rw [hgo] at kE2
        clear hp hg h59 hgo
        have kS1 : ∀ w, Calls Tryz.prog 25 #[.string E1, .string ⟨#[59]⟩] w fun e w' => e = .returned (.int .i64 (clI (scn [59] (tl E1) (E1.size + 1) 0))) ∧ w' = w := fun w => rscan_any E1 ⟨#[59]⟩ hBs (by decide) w
        cases hp2 : scn [59] (tl E1) (E1.size + 1) 0 with
        | none =>
          have hR : rhB E1 = ⟨2, nil, E1, nil, nil, 0, false, false⟩ := by unfold rhB; rw [hO]; simp only; rw [hp2]
          rw [hR]
          rw [hp2] at kS1
          simp only [clI] at kS1
          clear hR hp2 hO
          go_enter Tryz.func9, Tryz.ntmps9
          go_upto_region 1 with fail
          rw [HW.out]
          go_wp2_with fail
          refine (kS _).mono ?_
          rintro e w1 ⟨rfl, rfl⟩
          go_wp2_with fail
          refine (kE _).mono ?_
          rintro e w2 ⟨rfl, rfl⟩
          go_upto_region 8 with fail
          have hy2 := bx8_at w2 2 L ⟨#[]⟩ ⟨#[]⟩ ⟨#[]⟩ 0 false false
          have hx3 := hx.alloc (.cells #[.int .i64 2, .string L, .string ⟨#[]⟩, .string ⟨#[]⟩, .string ⟨#[]⟩, .int .i64 0, .bool false, .bool false] 24)
          have hlt := hx.lt
          have hB3 := hB.alloc hB.size (.cells #[.int .i64 2, .string L, .string ⟨#[]⟩, .string ⟨#[]⟩, .string ⟨#[]⟩, .int .i64 0, .bool false, .bool false] 24)
          generalize hA : w2.heap.size = A at hy2 hlt
          generalize hW3 : w2.alloc (.cells #[.int .i64 2, .string L, .string ⟨#[]⟩, .string ⟨#[]⟩, .string ⟨#[]⟩, .int .i64 0, .bool false, .bool false] 24) = W3 at hx3 hy2 hB3
          have HW3 := hide' hW3
          have HA := hide' hA
          clear hW3 hx hB hA
          go_upto_region 12 with fail
          have hx4 := hx3
          have hy4 := hy2
          have hB4 := hB3
          clear hx3 hy2 hB3
          have cc0 := hx4.c0
          have cf0 := hx4.fz 0
          have cc1 := hx4.c1
          have cf1 := hx4.fz 1
          have cc2 := hx4.c2
          have cf2 := hx4.fz 2
          have cc3 := hx4.c3
          have cf3 := hx4.fz 3
          have cc4 := hx4.c4
          have cf4 := hx4.fz 4
          have cc5 := hx4.c5
          have cf5 := hx4.fz 5
          have cc6 := hx4.c6
          have cf6 := hx4.fz 6
          have cc7 := hx4.c7
          have cf7 := hx4.fz 7
          have yc0 := hy4.c0
          have yf0 := hy4.fz 0
          have yc1 := hy4.c1
          have yf1 := hy4.fz 1
          have yc2 := hy4.c2
          have yf2 := hy4.fz 2
          have yc3 := hy4.c3
          have yf3 := hy4.fz 3
          have yc4 := hy4.c4
          have yf4 := hy4.fz 4
          have yc5 := hy4.c5
          have yf5 := hy4.fz 5
          have yc6 := hy4.c6
          have yf6 := hy4.fz 6
          have yc7 := hy4.c7
          have yf7 := hy4.fz 7
          have HX := hide' hx4
          have HY := hide' hy4
          clear hx4 hy4
          go_wp2_with fail
          refine (kS3 _).mono ?_
          rintro e w3 ⟨rfl, rfl⟩
          go_wp2_with fail
          refine (kE2 _).mono ?_
          rintro e w4 ⟨rfl, rfl⟩
          go_wp2_with fail
          refine (kS1 _).mono ?_
          rintro e w5 ⟨rfl, rfl⟩
          go_wp2
          have hne : w.heap.size ≠ A := by omega
          have hbA : w.heap.size ≤ A := by omega
          have hx9 := (HX.out.other hne 2 (.string E1)).set (k' := 2) (l' := L) (r' := E1) (n' := ⟨#[]⟩) (c' := ⟨#[]⟩) (s' := 0) (d' := false) (h' := false)
          have e0 := hx9.c0
          have e1 := hx9.c1
          have e2 := hx9.c2
          have e3 := hx9.c3
          have e4 := hx9.c4
          have e5 := hx9.c5
          have e6 := hx9.c6
          have e7 := hx9.c7
          refine bodyPost_ret (by simp [results, Tryz.results9, go_sem, e0, e1, e2, e3, e4, e5, e6, e7]; rfl) rfl ?_
          exact ⟨rfl, put8_below (hB4.setCell (p := ⟨A, 2, none⟩) hbA (.string E1)) (Nat.le_refl _) _ _ _ _ _ _ _ _⟩
        | some p2 =>
          obtain ⟨hpl2, _⟩ := scn_is _ _ _ _ _ hp2
          rw [tl_len] at hpl2
          have hR : rhB E1 = ⟨2, nil, E1.extract 0 p2, nil, pb (E1.extract (p2 + 1) E1.size), 0, false, true⟩ := by unfold rhB; rw [hO]; simp only; rw [hp2]
          rw [hR]
          rw [hp2] at kS1
          simp only [clI] at kS1
          have sB := sl_to E1 p2 (by omega)
          have sG := sl_from E1 (p2 + 1) (by omega)
          rw [show ((p2 + 1 : Nat) : Int) = (p2 : Int) + 1 by omega] at sG
          have hw9 : IntKind.i64.wrap ((p2 : Int) + 1) = (p2 : Int) + 1 := i64_id _ ⟨by omega, by omega⟩
          have kL := fun w => left_any (E1.extract (p2 + 1) E1.size) (by rw [ByteArray.size_extract]; omega) w
          rw [show mk ((tl (E1.extract (p2 + 1) E1.size)).dropWhile bl) = pb (E1.extract (p2 + 1) E1.size) from rfl] at kL
          generalize pb (E1.extract (p2 + 1) E1.size) = Pb at kL
          clear hR hp2 hO
          go_enter Tryz.func9, Tryz.ntmps9
          go_upto_region 1 with fail
          rw [HW.out]
          go_wp2_with fail
          refine (kS _).mono ?_
          rintro e w1 ⟨rfl, rfl⟩
          go_wp2_with fail
          refine (kE _).mono ?_
          rintro e w2 ⟨rfl, rfl⟩
          go_upto_region 8 with fail
          have hy2 := bx8_at w2 2 L ⟨#[]⟩ ⟨#[]⟩ ⟨#[]⟩ 0 false false
          have hx3 := hx.alloc (.cells #[.int .i64 2, .string L, .string ⟨#[]⟩, .string ⟨#[]⟩, .string ⟨#[]⟩, .int .i64 0, .bool false, .bool false] 24)
          have hlt := hx.lt
          have hB3 := hB.alloc hB.size (.cells #[.int .i64 2, .string L, .string ⟨#[]⟩, .string ⟨#[]⟩, .string ⟨#[]⟩, .int .i64 0, .bool false, .bool false] 24)
          generalize hA : w2.heap.size = A at hy2 hlt
          generalize hW3 : w2.alloc (.cells #[.int .i64 2, .string L, .string ⟨#[]⟩, .string ⟨#[]⟩, .string ⟨#[]⟩, .int .i64 0, .bool false, .bool false] 24) = W3 at hx3 hy2 hB3
          have HW3 := hide' hW3
          have HA := hide' hA
          clear hW3 hx hB hA
          go_upto_region 12 with fail
          have hx4 := hx3
          have hy4 := hy2
          have hB4 := hB3
          clear hx3 hy2 hB3
          have cc0 := hx4.c0
          have cf0 := hx4.fz 0
          have cc1 := hx4.c1
          have cf1 := hx4.fz 1
          have cc2 := hx4.c2
          have cf2 := hx4.fz 2
          have cc3 := hx4.c3
          have cf3 := hx4.fz 3
          have cc4 := hx4.c4
          have cf4 := hx4.fz 4
          have cc5 := hx4.c5
          have cf5 := hx4.fz 5
          have cc6 := hx4.c6
          have cf6 := hx4.fz 6
          have cc7 := hx4.c7
          have cf7 := hx4.fz 7
          have yc0 := hy4.c0
          have yf0 := hy4.fz 0
          have yc1 := hy4.c1
          have yf1 := hy4.fz 1
          have yc2 := hy4.c2
          have yf2 := hy4.fz 2
          have yc3 := hy4.c3
          have yf3 := hy4.fz 3
          have yc4 := hy4.c4
          have yf4 := hy4.fz 4
          have yc5 := hy4.c5
          have yf5 := hy4.fz 5
          have yc6 := hy4.c6
          have yf6 := hy4.fz 6
          have yc7 := hy4.c7
          have yf7 := hy4.fz 7
          have HX := hide' hx4
          have HY := hide' hy4
          clear hx4 hy4
          go_wp2_with fail
          refine (kS3 _).mono ?_
          rintro e w3 ⟨rfl, rfl⟩
          go_wp2_with fail
          refine (kE2 _).mono ?_
          rintro e w4 ⟨rfl, rfl⟩
          go_wp2_with fail
          refine (kS1 _).mono ?_
          rintro e w5 ⟨rfl, rfl⟩
          go_wp2_with (go_at_call 28; refine (kL _).mono ?_; rintro e w6 ⟨rfl, rfl⟩)
          have hne : w.heap.size ≠ A := by omega
          have hbA : w.heap.size ≤ A := by omega
          have hx9 := ((((HX.out.other hne 2 (.string E1)).other hne 2 (.string (E1.extract 0 p2))).other hne 7 (.bool true)).other hne 4 (.string Pb)).set (k' := 2) (l' := L) (r' := (E1.extract 0 p2)) (n' := ⟨#[]⟩) (c' := Pb) (s' := 0) (d' := false) (h' := true)
          have e0 := hx9.c0
          have e1 := hx9.c1
          have e2 := hx9.c2
          have e3 := hx9.c3
          have e4 := hx9.c4
          have e5 := hx9.c5
          have e6 := hx9.c6
          have e7 := hx9.c7
          refine bodyPost_ret (by simp [results, Tryz.results9, go_sem, e0, e1, e2, e3, e4, e5, e6, e7]; rfl) rfl ?_
          exact ⟨rfl, put8_below ((((hB4.setCell (p := ⟨A, 2, none⟩) hbA (.string E1)).setCell (p := ⟨A, 2, none⟩) hbA (.string (E1.extract 0 p2))).setCell (p := ⟨A, 7, none⟩) hbA (.bool true)).setCell (p := ⟨A, 4, none⟩) hbA (.string Pb)) (Nat.le_refl _) _ _ _ _ _ _ _ _⟩
      | true =>
        have kV := fun w => asd_any E1 p hBs hpl hgo w
        have hR : rhB E1 = ⟨3, nil, (asB E1 p).r, (asB E1 p).l, nil, (asB E1 p).s, false, false⟩ := by unfold rhB scoB; rw [hp]; simp only; rw [hg, if_neg h59, hgo]; rfl
        rw [hR]
        rw [hgo] at kE2
        generalize asB E1 p = V at kV
        obtain ⟨Vk, Vl, Vr, Vn, Vc, Vs, Vd, Vh⟩ := V
        simp only [hv] at kV
        clear hp hg h59 hgo hR
        go_enter Tryz.func9, Tryz.ntmps9
        go_upto_region 1 with fail
        rw [HW.out]
        go_wp2_with fail
        refine (kS _).mono ?_
        rintro e w1 ⟨rfl, rfl⟩
        go_wp2_with fail
        refine (kE _).mono ?_
        rintro e w2 ⟨rfl, rfl⟩
        go_upto_region 8 with fail
        have hy2 := bx8_at w2 2 L ⟨#[]⟩ ⟨#[]⟩ ⟨#[]⟩ 0 false false
        have hx3 := hx.alloc (.cells #[.int .i64 2, .string L, .string ⟨#[]⟩, .string ⟨#[]⟩, .string ⟨#[]⟩, .int .i64 0, .bool false, .bool false] 24)
        have hlt := hx.lt
        have hB3 := hB.alloc hB.size (.cells #[.int .i64 2, .string L, .string ⟨#[]⟩, .string ⟨#[]⟩, .string ⟨#[]⟩, .int .i64 0, .bool false, .bool false] 24)
        generalize hA : w2.heap.size = A at hy2 hlt
        generalize hW3 : w2.alloc (.cells #[.int .i64 2, .string L, .string ⟨#[]⟩, .string ⟨#[]⟩, .string ⟨#[]⟩, .int .i64 0, .bool false, .bool false] 24) = W3 at hx3 hy2 hB3
        have HW3 := hide' hW3
        have HA := hide' hA
        clear hW3 hx hB hA
        go_upto_region 12 with fail
        have hx4 := hx3
        have hy4 := hy2
        have hB4 := hB3
        clear hx3 hy2 hB3
        go_wp2_with fail
        refine (kS3 _).mono ?_
        rintro e w3 ⟨rfl, rfl⟩
        go_wp2_with fail
        refine (kE2 _).mono ?_
        rintro e w4 ⟨rfl, rfl⟩
        go_upto_region 16 with (go_at_call 27; refine (kV _).mono ?_; rintro e w5 ⟨rfl, hb5⟩)
        have hx5 := (hx4.below hb5).alloc (.cells #[.int .i64 Vk, .string Vl, .string Vr, .string Vn, .string Vc, .int .i64 Vs, .bool Vd, .bool Vh] 24)
        have hy5 := (hy4.below hb5).alloc (.cells #[.int .i64 Vk, .string Vl, .string Vr, .string Vn, .string Vc, .int .i64 Vs, .bool Vd, .bool Vh] 24)
        have hz5 := bx8_at w5 Vk Vl Vr Vn Vc Vs Vd Vh
        have hlA := (hy4.below hb5).lt
        have hB5 := (hB4.trans (hb5.mono hB4.size))
        have hB6 := hB5.alloc hB5.size (.cells #[.int .i64 Vk, .string Vl, .string Vr, .string Vn, .string Vc, .int .i64 Vs, .bool Vd, .bool Vh] 24)
        generalize hA2 : w5.heap.size = A2 at hz5 hlA
        generalize hW6 : w5.alloc (.cells #[.int .i64 Vk, .string Vl, .string Vr, .string Vn, .string Vc, .int .i64 Vs, .bool Vd, .bool Vh] 24) = W6 at hx5 hy5 hz5 hB6
        have HW6 := hide' hW6
        have HA2 := hide' hA2
        clear hW6 hA2 hx4 hy4 hB4 hb5 hB5
        have cc0 := hx5.c0
        have cf0 := hx5.fz 0
        have cc1 := hx5.c1
        have cf1 := hx5.fz 1
        have cc2 := hx5.c2
        have cf2 := hx5.fz 2
        have cc3 := hx5.c3
        have cf3 := hx5.fz 3
        have cc4 := hx5.c4
        have cf4 := hx5.fz 4
        have cc5 := hx5.c5
        have cf5 := hx5.fz 5
        have cc6 := hx5.c6
        have cf6 := hx5.fz 6
        have cc7 := hx5.c7
        have cf7 := hx5.fz 7
        have yc0 := hy5.c0
        have yf0 := hy5.fz 0
        have yc1 := hy5.c1
        have yf1 := hy5.fz 1
        have yc2 := hy5.c2
        have yf2 := hy5.fz 2
        have yc3 := hy5.c3
        have yf3 := hy5.fz 3
        have yc4 := hy5.c4
        have yf4 := hy5.fz 4
        have yc5 := hy5.c5
        have yf5 := hy5.fz 5
        have yc6 := hy5.c6
        have yf6 := hy5.fz 6
        have yc7 := hy5.c7
        have yf7 := hy5.fz 7
        have zc0 := hz5.c0
        have zf0 := hz5.fz 0
        have zc1 := hz5.c1
        have zf1 := hz5.fz 1
        have zc2 := hz5.c2
        have zf2 := hz5.fz 2
        have zc3 := hz5.c3
        have zf3 := hz5.fz 3
        have zc4 := hz5.c4
        have zf4 := hz5.fz 4
        have zc5 := hz5.c5
        have zf5 := hz5.fz 5
        have zc6 := hz5.c6
        have zf6 := hz5.fz 6
        have zc7 := hz5.c7
        have zf7 := hz5.fz 7
        have HX := hide' hx5
        have HY := hide' hy5
        have HZ := hide' hz5
        clear hx5 hy5 hz5
        go_wp2
        have hne : w.heap.size ≠ A := by omega
        have hbA : w.heap.size ≤ A := by omega
        have hx9 := ((((HX.out.other hne 0 (.int .i64 3)).other hne 3 (.string Vl)).other hne 2 (.string Vr)).other hne 5 (.int .i64 Vs)).set (k' := 3) (l' := L) (r' := Vr) (n' := Vl) (c' := ⟨#[]⟩) (s' := Vs) (d' := false) (h' := false)
        have e0 := hx9.c0
        have e1 := hx9.c1
        have e2 := hx9.c2
        have e3 := hx9.c3
        have e4 := hx9.c4
        have e5 := hx9.c5
        have e6 := hx9.c6
        have e7 := hx9.c7
        refine bodyPost_ret (by simp [results, Tryz.results9, go_sem, e0, e1, e2, e3, e4, e5, e6, e7]; rfl) rfl ?_
        exact ⟨rfl, put8_below ((((hB6.setCell (p := ⟨A, 0, none⟩) hbA (.int .i64 3)).setCell (p := ⟨A, 3, none⟩) hbA (.string Vl)).setCell (p := ⟨A, 2, none⟩) hbA (.string Vr)).setCell (p := ⟨A, 5, none⟩) hbA (.int .i64 Vs)) (Nat.le_refl _) _ _ _ _ _ _ _ _⟩
end Go.Proofs.YtchnimlnoolkiaaGreatDoor
