/- The contracts of anvilref10.closing and of refs.begin. -/
import Derived.Test.YthkjinhnnilalaaGreatDoorBr
namespace Go.Proofs.YthkjinhnnilalaaGreatDoor
open Go.RowKit

/-- the place that closes, or -1 -/
def clI : Option Nat → Int
  | some i => i
  | none => -1
set_option maxHeartbeats 2000000 in
/-- refs.begin -/
theorem begin_any (s : ByteArray) (hs : s.size ≤ 100000) (a : Nat) (ha : a < s.size) (w : World) :
    Calls Tryz.prog 51 #[.string s, .int .i64 a] w fun e w' => e = ret2 (bg (tl s) a).1 (bg (tl s) a).2 ∧ Below w.heap.size w w' := by
  have hga := getD_at s a ha
  have hl := tl_len s
  by_cases h1 : s[a] = 36
  · by_cases h2 : a + 1 < s.size
    · have hgb := getD_at s (a + 1) h2
      have d1 : ((s[a].toNat : Int) != 36) = false := by rw [h1]; decide
      have d2 : ((a : Int) + 1 == (s.size : Int)) = false := beq_eq_false_iff_ne.2 (by omega)
      have d3 : (((a + 1 : Nat) : Int) == (s.size : Int)) = false := beq_eq_false_iff_ne.2 (by omega)
      by_cases h3 : s[a + 1] = 36
      · have HR : Hid (bg (tl s) a = (0, a + 2)) := by
          show _ = _
          unfold bg
          rw [hga, hgb, hl, if_pos ⟨h1, h2⟩, if_pos h3]
        have e1 : (s[a + 1].toNat : Int) = 36 := by rw [h3]; decide
        clear hga hgb h1 h3 hl
        go_enter Tryz.func51, Tryz.ntmps51
        go_wp2
        go_ret2
        rw [HR.out]
        exact ⟨by simp, Below.refl _ _⟩
      · have e1 : ((s[a + 1].toNat : Int) == 36) = false := beq_no _ 36 36 rfl h3
        by_cases h4 : s[a + 1] = 123
        · have HR : Hid (bg (tl s) a = brkR (tl s) s[a + 1] 125 (a + 1)) := by
            show _ = _
            unfold bg
            rw [hga, hgb, hl, if_pos ⟨h1, h2⟩, if_neg h3, if_pos (.inl h4), h4]
            rfl
          have e2 : ((s[a + 1].toNat : Int) == 123) = true := beq_yes _ 123 123 rfl h4
          have kB : ∀ w, Calls Tryz.prog 71 #[.string s, .int .i64 ((a + 1 : Nat) : Int), .int .u8 125] w _ := fun w => bracketed_any s hs (a + 1) h2 125 (by rw [h4]; decide) w
          have hc : ((a + 1 : Nat) : Int) = (a : Int) + 1 := by omega
          rw [hc] at kB
          clear hga hgb h1 h3 h4 hl hc
          go_enter Tryz.func51, Tryz.ntmps51
          go_wp2_with (go_at_call 71; refine (kB _).mono ?_; rintro e w1 ⟨rfl, hb1⟩)
          go_ret2
          rw [HR.out]
          exact ⟨by simp, hb1⟩
        · have e2 : ((s[a + 1].toNat : Int) == 123) = false := beq_no _ 123 123 rfl h4
          by_cases h5 : s[a + 1] = 40
          · have HR : Hid (bg (tl s) a = brkR (tl s) s[a + 1] 41 (a + 1)) := by
              show _ = _
              unfold bg
              rw [hga, hgb, hl, if_pos ⟨h1, h2⟩, if_neg h3, if_pos (.inr h5), h5]
              rfl
            have e3 : ((s[a + 1].toNat : Int) == 40) = true := beq_yes _ 40 40 rfl h5
            have kB : ∀ w, Calls Tryz.prog 71 #[.string s, .int .i64 ((a + 1 : Nat) : Int), .int .u8 41] w _ := fun w => bracketed_any s hs (a + 1) h2 41 (by rw [h5]; decide) w
            have hc : ((a + 1 : Nat) : Int) = (a : Int) + 1 := by omega
            rw [hc] at kB
            clear hga hgb h1 h3 h4 h5 hl hc
            go_enter Tryz.func51, Tryz.ntmps51
            go_wp2_with (go_at_call 71; refine (kB _).mono ?_; rintro e w1 ⟨rfl, hb1⟩)
            go_ret2
            rw [HR.out]
            exact ⟨by simp, hb1⟩
          · have HR : Hid (bg (tl s) a = (1, a + 2)) := by
              show _ = _
              unfold bg
              rw [hga, hgb, hl, if_pos ⟨h1, h2⟩, if_neg h3, if_neg (by rintro (h | h); exact h4 h; exact h5 h)]
            have e3 : ((s[a + 1].toNat : Int) == 40) = false := beq_no _ 40 40 rfl h5
            clear hga hgb h1 h3 h4 h5 hl
            go_enter Tryz.func51, Tryz.ntmps51
            go_wp2
            go_ret2
            rw [HR.out]
            exact ⟨by simp, Below.refl _ _⟩
    · have HR : Hid (bg (tl s) a = (0, a + 1)) := by
        show _ = _
        unfold bg
        rw [hl, if_neg (fun h => h2 h.2)]
      have d1 : ((s[a].toNat : Int) != 36) = false := by rw [h1]; decide
      have d2 : ((a : Int) + 1 == (s.size : Int)) = true := beq_iff_eq.2 (by omega)
      clear hga h1 hl
      go_enter Tryz.func51, Tryz.ntmps51
      go_wp2
      go_ret2
      rw [HR.out]
      exact ⟨by simp, Below.refl _ _⟩
  · have HR : Hid (bg (tl s) a = (0, a + 1)) := by
      show _ = _
      unfold bg
      rw [hga, if_neg (fun h => h1 h.1)]
    have d1 : ((s[a].toNat : Int) != 36) = true := bne_yes _ 36 36 rfl h1
    clear hga h1 hl
    go_enter Tryz.func51, Tryz.ntmps51
    go_wp2
    go_ret2
    rw [HR.out]
    exact ⟨by simp, Below.refl _ _⟩
end Go.Proofs.YthkjinhnnilalaaGreatDoor
