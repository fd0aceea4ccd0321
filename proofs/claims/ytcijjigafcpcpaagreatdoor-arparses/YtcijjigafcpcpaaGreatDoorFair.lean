/- The contract of anvilref5.fair. -/
import Derived.Test.YtcijjigafcpcpaaGreatDoorRef2
import Derived.Test.YtcijjigafcpcpaaGreatDoorHead
namespace Go.Proofs.YtcijjigafcpcpaaGreatDoor
open Go.RowKit Go.Maps

theorem has_iff (b : Bs) : has b = true ↔ 47 ∈ b ∨ 0 ∈ b ∨ 10 ∈ b := by
  unfold has
  rw [List.any_eq_true]
  constructor
  · rintro ⟨x, hx, h⟩
    rcases (bad_iff x).1 h with rfl | rfl | rfl
    · exact .inl hx
    · exact .inr (.inl hx)
    · exact .inr (.inr hx)
  · rintro (h | h | h)
    · exact ⟨_, h, rfl⟩
    · exact ⟨_, h, rfl⟩
    · exact ⟨_, h, rfl⟩
theorem ok_eq (m : Mv) : okM m = (nmb m.name && decide (0 ≤ m.date) && decide (m.date ≤ 999999999999)) := rfl
theorem ok_has {m : Mv} (h : has m.name = true) : okM m = false := by rw [ok_eq, nmb_has, h]; simp
set_option maxRecDepth 100000 in
set_option maxHeartbeats 4000000 in
theorem fair_any (b : Bs) (t : Int) (da : Option Addr) (dl dc : Nat) (x : Bs) (hs : b.length ≤ 1000000) (w : World) :
    Calls Tryz.prog 25 #[.agg #[.string (mk b), .int .i64 t, .slice da dl dc]] w fun e w' => e = .returned (.bool (okM ⟨b, t, .slice da dl dc, x⟩)) ∧ Below w.heap.size w w' := by
  have hB : Below w.heap.size w (w.alloc (.cells #[.string (mk b), .int .i64 t, .slice da dl dc] 37)) := (Below.refl _ _).alloc (Nat.le_refl _) _
  have hsz := mk_size b
  obtain ⟨r, hr⟩ : ∃ r, r = okM ⟨b, t, .slice da dl dc, x⟩ := ⟨_, rfl⟩
  rw [← hr]
  by_cases h0 : b = []
  · have HO : Hid (r = false) := by rw [hr, ok_eq, nmb_has, h0]; rfl
    subst h0
    clear hr
    go_enter Tryz.func25, Tryz.ntmps25
    go_wp2
    go_ret
    exact ⟨ret_bool (by first | exact HO.out.symm | (rw [HO.out]; exact decide_eq_false (by omega))), hB⟩
  have e1 : (b == []) = false := beq_eq_false_iff_ne.2 h0
  have e0 : b.isEmpty = false := by cases b with | nil => exact absurd rfl h0 | cons _ _ => rfl
  by_cases h1 : b.length ≤ 255
  · have k1 : (b.length : Int) ≤ 255 := by omega
    by_cases h47 : (47 : UInt8) ∈ b
    · have HO : Hid (r = false) := by rw [hr]; exact ok_has ((has_iff b).2 (.inl h47))
      have q47 : ∀ w, Calls Tryz.prog 31 #[.string (mk b), .int .u8 47] w fun e w' => (∃ k : Nat, e = .returned (.int .i64 k)) ∧ w' = w := fun w => rindex_yes 47 47 rfl (mk b) w (by rw [mk_size]; omega) (by rw [tl_mk]; exact h47)
      clear hr h47 h0
      go_enter Tryz.func25, Tryz.ntmps25
      go_wp2_with fail
      refine (q47 _).mono ?_
      rintro e w' ⟨⟨k, rfl⟩, rfl⟩
      dsimp only
      have hkk : ¬ (k : Int) < 0 := by omega
      go_wp2
      go_ret
      exact ⟨ret_bool (by first | exact HO.out.symm | (rw [HO.out]; exact decide_eq_false (by omega))), hB⟩
    have q47 : ∀ w, Calls Tryz.prog 31 #[.string (mk b), .int .u8 47] w fun e w' => e = .returned (.int .i64 (-1)) ∧ w' = w := fun w => rindex_no 47 47 rfl (mk b) w (by rw [mk_size]; omega) (by rw [tl_mk]; exact h47)
    by_cases h0c : (0 : UInt8) ∈ b
    · have HO : Hid (r = false) := by rw [hr]; exact ok_has ((has_iff b).2 (.inr (.inl h0c)))
      have q0 : ∀ w, Calls Tryz.prog 31 #[.string (mk b), .int .u8 0] w fun e w' => (∃ k : Nat, e = .returned (.int .i64 k)) ∧ w' = w := fun w => rindex_yes 0 0 rfl (mk b) w (by rw [mk_size]; omega) (by rw [tl_mk]; exact h0c)
      clear hr h47 h0 h0c
      go_enter Tryz.func25, Tryz.ntmps25
      go_wp2_with fail
      refine (q47 _).mono ?_
      rintro e w' ⟨rfl, rfl⟩
      dsimp only
      go_wp2_with fail
      refine (q0 _).mono ?_
      rintro e w' ⟨⟨k, rfl⟩, rfl⟩
      dsimp only
      have hkk : ¬ (k : Int) < 0 := by omega
      go_wp2
      go_ret
      exact ⟨ret_bool (by first | exact HO.out.symm | (rw [HO.out]; exact decide_eq_false (by omega))), hB⟩
    have q0 : ∀ w, Calls Tryz.prog 31 #[.string (mk b), .int .u8 0] w fun e w' => e = .returned (.int .i64 (-1)) ∧ w' = w := fun w => rindex_no 0 0 rfl (mk b) w (by rw [mk_size]; omega) (by rw [tl_mk]; exact h0c)
    by_cases h10 : (10 : UInt8) ∈ b
    · have HO : Hid (r = false) := by rw [hr]; exact ok_has ((has_iff b).2 (.inr (.inr h10)))
      have q10 : ∀ w, Calls Tryz.prog 31 #[.string (mk b), .int .u8 10] w fun e w' => (∃ k : Nat, e = .returned (.int .i64 k)) ∧ w' = w := fun w => rindex_yes 10 10 rfl (mk b) w (by rw [mk_size]; omega) (by rw [tl_mk]; exact h10)
      clear hr h47 h0 h0c h10
      go_enter Tryz.func25, Tryz.ntmps25
      go_wp2_with fail
      refine (q47 _).mono ?_
      rintro e w' ⟨rfl, rfl⟩
      dsimp only
      go_wp2_with fail
      refine (q0 _).mono ?_
      rintro e w' ⟨rfl, rfl⟩
      dsimp only
      go_wp2_with fail
      refine (q10 _).mono ?_
      rintro e w' ⟨⟨k, rfl⟩, rfl⟩
      dsimp only
      have hkk : ¬ (k : Int) < 0 := by omega
      go_wp2
      go_ret
      exact ⟨ret_bool (by first | exact HO.out.symm | (rw [HO.out]; exact decide_eq_false (by omega))), hB⟩
    have q10 : ∀ w, Calls Tryz.prog 31 #[.string (mk b), .int .u8 10] w fun e w' => e = .returned (.int .i64 (-1)) ∧ w' = w := fun w => rindex_no 10 10 rfl (mk b) w (by rw [mk_size]; omega) (by rw [tl_mk]; exact h10)
    have hh : has b = false := by
      cases hb : has b with
      | false => rfl
      | true => rcases (has_iff b).1 hb with h | h | h
                · exact absurd h h47
                · exact absurd h h0c
                · exact absurd h h10
    by_cases ht : 0 ≤ t
    · by_cases ht2 : t < 1000000000000
      · have HO : Hid (r = true) := by
          rw [hr, ok_eq, nmb_has]
          simp only [e0, hh]
          rw [decide_eq_true h1, decide_eq_true ht, decide_eq_true (show t ≤ 999999999999 by omega)]
          rfl
        clear hr h47 h0 h0c h10 hh
        go_enter Tryz.func25, Tryz.ntmps25
        go_wp2_with fail
        refine (q47 _).mono ?_
        rintro e w' ⟨rfl, rfl⟩
        dsimp only
        go_wp2_with fail
        refine (q0 _).mono ?_
        rintro e w' ⟨rfl, rfl⟩
        dsimp only
        go_wp2_with fail
        refine (q10 _).mono ?_
        rintro e w' ⟨rfl, rfl⟩
        dsimp only
        go_wp2
        go_ret
        exact ⟨ret_bool (by first | exact HO.out.symm | (rw [HO.out]; exact decide_eq_false (by omega))), hB⟩
      · have HO : Hid (r = false) := by
          refine hide' ?_
          rw [hr, ok_eq]
          rw [decide_eq_false (show ¬ t ≤ 999999999999 by omega)]
          simp
        clear hr h47 h0 h0c h10 hh
        go_enter Tryz.func25, Tryz.ntmps25
        go_wp2_with fail
        refine (q47 _).mono ?_
        rintro e w' ⟨rfl, rfl⟩
        dsimp only
        go_wp2_with fail
        refine (q0 _).mono ?_
        rintro e w' ⟨rfl, rfl⟩
        dsimp only
        go_wp2_with fail
        refine (q10 _).mono ?_
        rintro e w' ⟨rfl, rfl⟩
        dsimp only
        go_wp2
        go_ret
        exact ⟨ret_bool (by first | exact HO.out.symm | (rw [HO.out]; exact decide_eq_false (by omega))), hB⟩
    · have HO : Hid (r = false) := by
        refine hide' ?_
        rw [hr, ok_eq]
        rw [decide_eq_false ht]
        simp
      clear hr h47 h0 h0c h10 hh
      go_enter Tryz.func25, Tryz.ntmps25
      go_wp2_with fail
      refine (q47 _).mono ?_
      rintro e w' ⟨rfl, rfl⟩
      dsimp only
      go_wp2_with fail
      refine (q0 _).mono ?_
      rintro e w' ⟨rfl, rfl⟩
      dsimp only
      go_wp2_with fail
      refine (q10 _).mono ?_
      rintro e w' ⟨rfl, rfl⟩
      dsimp only
      go_wp2
      go_ret
      exact ⟨ret_bool (by first | exact HO.out.symm | (rw [HO.out]; exact decide_eq_false (by omega))), hB⟩
  · have k1 : ¬ (b.length : Int) ≤ 255 := by omega
    have HO : Hid (r = false) := by
      refine hide' ?_
      rw [hr, ok_eq, nmb_has]
      rw [decide_eq_false h1]
      simp
    clear hr h0
    go_enter Tryz.func25, Tryz.ntmps25
    go_wp2
    go_ret
    exact ⟨ret_bool (by first | exact HO.out.symm | (rw [HO.out]; exact decide_eq_false (by omega))), hB⟩
end Go.Proofs.YtcijjigafcpcpaaGreatDoor
