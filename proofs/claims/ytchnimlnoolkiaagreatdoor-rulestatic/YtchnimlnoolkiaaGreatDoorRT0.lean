/- The reference's Take, where a rule's separator stands: way 0. -/
import Derived.Test.YtchnimlnoolkiaaGreatDoorAsd
import Derived.Test.YtchnimlnoolkiaaGreatDoorRHd
import Derived.Test.YtchnimlnoolkiaaGreatDoorRscan
import Derived.Test.YtchnimlnoolkiaaGreatDoorTr
namespace Go.Proofs.YtchnimlnoolkiaaGreatDoor
open Go.RowKit Go.Shelf

set_option maxRecDepth 100000 in
set_option maxHeartbeats 8000000 in
theorem rt_0 (s L E1 B : ByteArray) (q : Nat) (hql : q < s.size) (hs : s.size ≤ 100000) (hBs : B.size ≤ 100000) (h0 : E1.size = 0) (hEB : E1 = B)
    (kS : ∀ w, Calls Tryz.prog 25 #[.string s, .string ⟨#[61, 58]⟩] w fun e w' => e = .returned (.int .i64 q) ∧ w' = w)
    (kE : ∀ w, Calls Tryz.prog 26 #[.string s, .int .i64 q] w fun e w' => e = .returned (.bool false) ∧ w' = w)
    (sL : ∀ W, (Instr.slice 9 (.string s) none (some (.int .i64 q)) none).run Tryz.prog W = .ok (.string L) W)
    (sF : ∀ W, (Instr.slice 9 (.string s) (some (.int .i64 ((q : Int) + 1))) none none).run Tryz.prog W = .ok (.string E1) W) (w : World) :
    Calls Tryz.prog 9 #[.string s] w fun e w' => e = .returned (hv ⟨(rhB B).k, L, (rhB B).r, (rhB B).n, (rhB B).c, (rhB B).s, false, (rhB B).h⟩) ∧ Below w.heap.size w w' := by
  have hx := bx8_new w
  have hB : Below w.heap.size w (w.alloc (.cells #[.int .i64 0, .string ⟨#[]⟩, .string ⟨#[]⟩, .string ⟨#[]⟩, .string ⟨#[]⟩, .int .i64 0, .bool false, .bool false] 24)) := (Below.refl _ w).alloc (Nat.le_refl _) _
  generalize hW : w.alloc (.cells #[.int .i64 0, .string ⟨#[]⟩, .string ⟨#[]⟩, .string ⟨#[]⟩, .string ⟨#[]⟩, .int .i64 0, .bool false, .bool false] 24) = W at hx hB
  have HW := hide' hW
  clear hW
  have hw1 : IntKind.i64.wrap ((q : Int) + 1) = (q : Int) + 1 := i64_id _ ⟨by omega, by omega⟩
  have d5 : decide ((0 : Int) < (E1.size : Int)) = false := decide_eq_false (by omega)
  have d6 : ¬ (0 : Int) < (E1.size : Int) := by omega
  clear h0
  subst hEB
  have kS3 : ∀ w, Calls Tryz.prog 25 #[.string E1, .string ⟨#[61, 58, 59]⟩] w fun e w' => e = .returned (.int .i64 (clI (scn [61, 58, 59] (tl E1) (E1.size + 1) 0))) ∧ w' = w := fun w => rscan_any E1 ⟨#[61, 58, 59]⟩ hBs (by decide) w
  cases hp : scn [61, 58, 59] (tl E1) (E1.size + 1) 0 with
  | none =>
    have hO : scoB E1 = none := by unfold scoB; rw [hp]
    rw [hp] at kS3
    simp only [clI] at kS3
    clear hp
    have kS1 : ∀ w, Calls Tryz.prog 25 #[.string E1, .string ⟨#[59]⟩] w fun e w' => e = .returned (.int .i64 (clI (scn [59] (tl E1) (E1.size + 1) 0))) ∧ w' = w := fun w => rscan_any E1 ⟨#[59]⟩ hBs (by decide) w
    cases hp2 : scn [59] (tl E1) (E1.size + 1) 0 with
    | none =>
      have hR : rhB E1 = ⟨2, nil, E1, nil, nil, 0, false, false⟩ := by unfold rhB; rw [hO]; simp only; rw [hp2]
      rw [hR]
      rw [hp2] at kS1
      simp only [clI] at kS1
      clear hR hp2 hO
      go_enter Tryz.func9, Tryz.ntmps9
      go_upto_region 1 with fail
      rw [HW.out]
      go_wp2_with fail
      refine (kS _).mono ?_
      rintro e w1 ⟨rfl, rfl⟩
      go_wp2_with fail
      refine (kE _).mono ?_
      rintro e w2 ⟨rfl, rfl⟩
      go_upto_region 8 with fail
      have hy2 := bx8_at w2 2 L ⟨#[]⟩ ⟨#[]⟩ ⟨#[]⟩ 0 false false
      have hx3 := hx.alloc (.cells #[.int .i64 2, .string L, .string ⟨#[]⟩, .string ⟨#[]⟩, .string ⟨#[]⟩, .int .i64 0, .bool false, .bool false] 24)
      have hlt := hx.lt
      have hB3 := hB.alloc hB.size (.cells #[.int .i64 2, .string L, .string ⟨#[]⟩, .string ⟨#[]⟩, .string ⟨#[]⟩, .int .i64 0, .bool false, .bool false] 24)
      generalize hA : w2.heap.size = A at hy2 hlt
      generalize hW3 : w2.alloc (.cells #[.int .i64 2, .string L, .string ⟨#[]⟩, .string ⟨#[]⟩, .string ⟨#[]⟩, .int .i64 0, .bool false, .bool false] 24) = W3 at hx3 hy2 hB3
      have HW3 := hide' hW3
      have HA := hide' hA
      clear hW3 hx hB hA
      go_upto_region 12 with fail
      have hx4 := hx3
      have hy4 := hy2
      have hB4 := hB3
      clear hx3 hy2 hB3
      have cc0 := hx4.c0
      have cf0 := hx4.fz 0
      have cc1 := hx4.c1
      have cf1 := hx4.fz 1
      have cc2 := hx4.c2
      have cf2 := hx4.fz 2
      have cc3 := hx4.c3
      have cf3 := hx4.fz 3
      have cc4 := hx4.c4
      have cf4 := hx4.fz 4
      have cc5 := hx4.c5
      have cf5 := hx4.fz 5
      have cc6 := hx4.c6
      have cf6 := hx4.fz 6
      have cc7 := hx4.c7
      have cf7 := hx4.fz 7
      have yc0 := hy4.c0
      have yf0 := hy4.fz 0
      have yc1 := hy4.c1
      have yf1 := hy4.fz 1
      have yc2 := hy4.c2
      have yf2 := hy4.fz 2
      have yc3 := hy4.c3
      have yf3 := hy4.fz 3
      have yc4 := hy4.c4
      have yf4 := hy4.fz 4
      have yc5 := hy4.c5
      have yf5 := hy4.fz 5
      have yc6 := hy4.c6
      have yf6 := hy4.fz 6
      have yc7 := hy4.c7
      have yf7 := hy4.fz 7
      have HX := hide' hx4
      have HY := hide' hy4
      clear hx4 hy4
      go_wp2_with fail
      refine (kS3 _).mono ?_
      rintro e w3 ⟨rfl, rfl⟩
      go_wp2_with fail
      refine (kS1 _).mono ?_
      rintro e w5 ⟨rfl, rfl⟩
      go_wp2
      have hne : w.heap.size ≠ A := by omega
      have hbA : w.heap.size ≤ A := by omega
      have hx9 := (HX.out.other hne 2 (.string E1)).set (k' := 2) (l' := L) (r' := E1) (n' := ⟨#[]⟩) (c' := ⟨#[]⟩) (s' := 0) (d' := false) (h' := false)
      have e0 := hx9.c0
      have e1 := hx9.c1
      have e2 := hx9.c2
      have e3 := hx9.c3
      have e4 := hx9.c4
      have e5 := hx9.c5
      have e6 := hx9.c6
      have e7 := hx9.c7
      refine bodyPost_ret (by simp [results, Tryz.results9, go_sem, e0, e1, e2, e3, e4, e5, e6, e7]; rfl) rfl ?_
      exact ⟨rfl, put8_below (hB4.setCell (p := ⟨A, 2, none⟩) hbA (.string E1)) (Nat.le_refl _) _ _ _ _ _ _ _ _⟩
    | some p2 =>
      obtain ⟨hpl2, _⟩ := scn_is _ _ _ _ _ hp2
      rw [tl_len] at hpl2
      omega
  | some p =>
    obtain ⟨hpl, _⟩ := scn_is _ _ _ _ _ hp
    rw [tl_len] at hpl
    omega
end Go.Proofs.YtchnimlnoolkiaaGreatDoor
