/- The contracts of anvilref5.head, anvilref5.fair. -/
import Derived.Test.YtcijjigafcpcpaaGreatDoorRef
namespace Go.Proofs.YtcijjigafcpcpaaGreatDoor
open Go.RowKit Go.Maps

theorem pad_size (n : Nat) (b : Bs) : (mk (pad n b)).size = b.length + (n - b.length) := by rw [mk_size]; unfold pad; simp
set_option maxRecDepth 100000 in
set_option maxHeartbeats 1000000 in
theorem rhead_any (a b c d : Bs) (n : Int) (ha : a.length ≤ 1000) (hb : b.length ≤ 1000) (hc : c.length ≤ 1000) (hd : d.length ≤ 1000) (h0 : 0 ≤ n) (h1 : n ≤ 1000000) (w : World) :
    Calls Tryz.prog 26 #[.string (mk a), .string (mk b), .string (mk c), .string (mk d), .int .i64 n] w fun e w' => e = .returned (.string (mk (headB a b c c d (dec n)))) ∧ w' = w := by
  have qd := fun w => rdec_any n h0 (by omega) w
  have hf : (dec n).length ≤ 7 := dec_len 6 n h0 (by show n < 10000000; omega)
  have hfin : mk (pad 16 a) ++ mk (pad 12 b) ++ mk (pad 6 c) ++ mk (pad 6 c) ++ mk (pad 8 d) ++ mk (pad 10 (dec n)) ++ (⟨#[96, 10]⟩ : ByteArray) = mk (headB a b c c d (dec n)) := by
    rw [cat_mk' (pad 16 a) (pad 12 b), cat_mk' (pad 16 a ++ pad 12 b) (pad 6 c), cat_mk' (pad 16 a ++ pad 12 b ++ pad 6 c) (pad 6 c), cat_mk' (pad 16 a ++ pad 12 b ++ pad 6 c ++ pad 6 c) (pad 8 d), cat_mk' (pad 16 a ++ pad 12 b ++ pad 6 c ++ pad 6 c ++ pad 8 d) (pad 10 (dec n)), cat_two]
    rfl
  have HF := hide' hfin
  clear hfin
  generalize dec n = f at *
  have p16a : ∀ w, Calls Tryz.prog 30 #[.string (mk a), .int .i64 16] w fun e w' => e = .returned (.string (mk (pad 16 a))) ∧ w' = w := fun w => pad_any a 16 (by omega) (by omega) w
  have z16a := pad_size 16 a
  have p12b : ∀ w, Calls Tryz.prog 30 #[.string (mk b), .int .i64 12] w fun e w' => e = .returned (.string (mk (pad 12 b))) ∧ w' = w := fun w => pad_any b 12 (by omega) (by omega) w
  have z12b := pad_size 12 b
  have p6c : ∀ w, Calls Tryz.prog 30 #[.string (mk c), .int .i64 6] w fun e w' => e = .returned (.string (mk (pad 6 c))) ∧ w' = w := fun w => pad_any c 6 (by omega) (by omega) w
  have z6c := pad_size 6 c
  have p8d : ∀ w, Calls Tryz.prog 30 #[.string (mk d), .int .i64 8] w fun e w' => e = .returned (.string (mk (pad 8 d))) ∧ w' = w := fun w => pad_any d 8 (by omega) (by omega) w
  have z8d := pad_size 8 d
  have p10f : ∀ w, Calls Tryz.prog 30 #[.string (mk f), .int .i64 10] w fun e w' => e = .returned (.string (mk (pad 10 f))) ∧ w' = w := fun w => pad_any f 10 (by omega) (by omega) w
  have z10f := pad_size 10 f
  generalize mk (pad 16 a) = P1 at *
  generalize mk (pad 12 b) = P2 at *
  generalize mk (pad 6 c) = P3 at *
  generalize mk (pad 8 d) = P5 at *
  generalize mk (pad 10 f) = P6 at *
  have z1 : P1.size ≤ 2000 := by omega
  have z2 : P2.size ≤ 2000 := by omega
  have z3 : P3.size ≤ 2000 := by omega
  have z5 : P5.size ≤ 2000 := by omega
  have z6 : P6.size ≤ 2000 := by omega
  clear z16a z12b z6c z8d z10f
  go_enter Tryz.func26, Tryz.ntmps26
  go_wp2_with fail
  refine (p16a _).mono ?_
  rintro e w' ⟨rfl, rfl⟩
  dsimp only
  go_wp2_with fail
  refine (p12b _).mono ?_
  rintro e w' ⟨rfl, rfl⟩
  dsimp only
  go_wp2_with fail
  refine (p6c _).mono ?_
  rintro e w' ⟨rfl, rfl⟩
  dsimp only
  go_wp2_with fail
  refine (p6c _).mono ?_
  rintro e w' ⟨rfl, rfl⟩
  dsimp only
  go_wp2_with fail
  refine (p8d _).mono ?_
  rintro e w' ⟨rfl, rfl⟩
  dsimp only
  go_wp2_with fail
  refine (qd _).mono ?_
  rintro e w' ⟨rfl, rfl⟩
  dsimp only
  go_wp2_with fail
  refine (p10f _).mono ?_
  rintro e w' ⟨rfl, rfl⟩
  dsimp only
  go_wp2
  go_ret
  exact ⟨ret_str HF.out, rfl⟩
end Go.Proofs.YtcijjigafcpcpaaGreatDoor
