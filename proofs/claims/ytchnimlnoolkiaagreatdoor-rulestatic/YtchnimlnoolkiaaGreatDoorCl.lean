/- The contracts of anvilref10.closing and of refs.begin. -/
import Derived.Test.YtchnimlnoolkiaaGreatDoorBr
namespace Go.Proofs.YtchnimlnoolkiaaGreatDoor
open Go.RowKit

/-- the place that closes, or -1 -/
def clI : Option Nat → Int
  | some i => i
  | none => -1
set_option maxHeartbeats 2000000 in
theorem closing_b (s : ByteArray) (hs : s.size ≤ 100000) (f : Nat) (hf : f + 1 < s.size) (o c : UInt8) (ho : s[f + 1] = o) (hoc : (o = 40 ∧ c = 41) ∨ (o = 123 ∧ c = 125)) (w : World) :
    Calls Tryz.prog 48 #[.string s, .int .i64 f] w fun e w' => e = .returned (.int .i64 (clI (cls o c (f + 2) 0 ((tl s).drop (f + 2))))) ∧ w' = w := by
  obtain ⟨R, hR⟩ : ∃ R, R = cls o c (f + 2) 0 ((tl s).drop (f + 2)) := ⟨_, rfl⟩
  have HR := hide' hR
  rw [← hR]
  clear hR
  rcases hoc with ⟨rfl, rfl⟩ | ⟨rfl, rfl⟩
  · have d0 : ((s[f + 1].toNat : Int) == 123) = false := by rw [ho]; decide
    have d1 : (s[f + 1].toNat : Int) = 40 := by rw [ho]; decide
    clear ho
    go_enter Tryz.func48, Tryz.ntmps48
    go_wp2
    go_loop [7, 8] (fun n i => ∃ k m : Nat, k ≤ s.size ∧ m ≤ k ∧ n = .int .i64 m ∧ i = .int .i64 k ∧ Hid (cls 40 41 k m ((tl s).drop k) = R)) (fun _ i => s.size - (intOf i).toNat)
    case atStart => exact ⟨f + 2, 0, by omega, by omega, rfl, by go_num, HR.out.symm⟩
    case round =>
      obtain ⟨k, m, hk, hm, rfl, rfl, HI⟩ := hrel
      clear HR d0 d1
      by_cases hlt : k < s.size
      · by_cases h1 : s[k] = 40
        · have e1 : ((s[k].toNat : Int) == 40) = true := beq_yes _ 40 40 rfl h1
          have e2 : ((s[k].toNat : Int) == 41) = false := beq_no _ 41 41 rfl (by rw [h1]; decide)
          have HI' : Hid (cls 40 41 (k + 1) (m + 1) ((tl s).drop (k + 1)) = R) := by
            show _ = _
            rw [← HI.out, drop_at s k hlt, h1, cls_open]
          clear HI h1
          go_wp2
          exact ⟨⟨k + 1, m + 1, by omega, by omega, by go_num, by go_num, HI'⟩, by simp [intOf]; omega⟩
        · have e1 : ((s[k].toNat : Int) == 40) = false := beq_no _ 40 40 rfl h1
          by_cases h2 : s[k] = 41
          · have e2 : ((s[k].toNat : Int) == 41) = true := beq_yes _ 41 41 rfl h2
            cases m with
            | zero =>
              have HI' : Hid (R = some k) := by
                show _ = _
                rw [← HI.out, drop_at s k hlt, h2, cls_end _ _ _ _ (by decide)]
              clear HI h1 h2
              go_wp2
              go_ret
              rw [HI'.out]
              exact ⟨rfl, rfl⟩
            | succ m =>
              have HI' : Hid (cls 40 41 (k + 1) m ((tl s).drop (k + 1)) = R) := by
                show _ = _
                rw [← HI.out, drop_at s k hlt, h2, cls_shut _ _ _ _ _ (by decide)]
              have e3 : (((m + 1 : Nat) : Int) == 0) = false := beq_eq_false_iff_ne.2 (by omega)
              clear HI h1 h2
              go_wp2
              exact ⟨⟨k + 1, m, by omega, by omega, by go_num, by go_num, HI'⟩, by simp [intOf]; omega⟩
          · have e2 : ((s[k].toNat : Int) == 41) = false := beq_no _ 41 41 rfl h2
            have HI' : Hid (cls 40 41 (k + 1) m ((tl s).drop (k + 1)) = R) := by
              show _ = _
              rw [← HI.out, drop_at s k hlt, cls_byte _ _ _ _ _ _ h1 h2]
            clear HI h1 h2
            go_wp2
            exact ⟨⟨k + 1, m, by omega, by omega, by go_num, by go_num, HI'⟩, by simp [intOf]; omega⟩
      · have HI' : Hid (R = none) := by
          show _ = _
          rw [← HI.out, drop_end s k (by omega), cls_nil]
        clear HI
        go_wp2
        go_ret
        rw [HI'.out]
        exact ⟨rfl, rfl⟩
  · have d0 : ((s[f + 1].toNat : Int) == 123) = true := by rw [ho]; decide
    have d1 : (s[f + 1].toNat : Int) = 123 := by rw [ho]; decide
    clear ho
    go_enter Tryz.func48, Tryz.ntmps48
    go_wp2
    go_loop [7, 8] (fun n i => ∃ k m : Nat, k ≤ s.size ∧ m ≤ k ∧ n = .int .i64 m ∧ i = .int .i64 k ∧ Hid (cls 123 125 k m ((tl s).drop k) = R)) (fun _ i => s.size - (intOf i).toNat)
    case atStart => exact ⟨f + 2, 0, by omega, by omega, rfl, by go_num, HR.out.symm⟩
    case round =>
      obtain ⟨k, m, hk, hm, rfl, rfl, HI⟩ := hrel
      clear HR d0 d1
      by_cases hlt : k < s.size
      · by_cases h1 : s[k] = 123
        · have e1 : ((s[k].toNat : Int) == 123) = true := beq_yes _ 123 123 rfl h1
          have e2 : ((s[k].toNat : Int) == 125) = false := beq_no _ 125 125 rfl (by rw [h1]; decide)
          have HI' : Hid (cls 123 125 (k + 1) (m + 1) ((tl s).drop (k + 1)) = R) := by
            show _ = _
            rw [← HI.out, drop_at s k hlt, h1, cls_open]
          clear HI h1
          go_wp2
          exact ⟨⟨k + 1, m + 1, by omega, by omega, by go_num, by go_num, HI'⟩, by simp [intOf]; omega⟩
        · have e1 : ((s[k].toNat : Int) == 123) = false := beq_no _ 123 123 rfl h1
          by_cases h2 : s[k] = 125
          · have e2 : ((s[k].toNat : Int) == 125) = true := beq_yes _ 125 125 rfl h2
            cases m with
            | zero =>
              have HI' : Hid (R = some k) := by
                show _ = _
                rw [← HI.out, drop_at s k hlt, h2, cls_end _ _ _ _ (by decide)]
              clear HI h1 h2
              go_wp2
              go_ret
              rw [HI'.out]
              exact ⟨rfl, rfl⟩
            | succ m =>
              have HI' : Hid (cls 123 125 (k + 1) m ((tl s).drop (k + 1)) = R) := by
                show _ = _
                rw [← HI.out, drop_at s k hlt, h2, cls_shut _ _ _ _ _ (by decide)]
              have e3 : (((m + 1 : Nat) : Int) == 0) = false := beq_eq_false_iff_ne.2 (by omega)
              clear HI h1 h2
              go_wp2
              exact ⟨⟨k + 1, m, by omega, by omega, by go_num, by go_num, HI'⟩, by simp [intOf]; omega⟩
          · have e2 : ((s[k].toNat : Int) == 125) = false := beq_no _ 125 125 rfl h2
            have HI' : Hid (cls 123 125 (k + 1) m ((tl s).drop (k + 1)) = R) := by
              show _ = _
              rw [← HI.out, drop_at s k hlt, cls_byte _ _ _ _ _ _ h1 h2]
            clear HI h1 h2
            go_wp2
            exact ⟨⟨k + 1, m, by omega, by omega, by go_num, by go_num, HI'⟩, by simp [intOf]; omega⟩
      · have HI' : Hid (R = none) := by
          show _ = _
          rw [← HI.out, drop_end s k (by omega), cls_nil]
        clear HI
        go_wp2
        go_ret
        rw [HI'.out]
        exact ⟨rfl, rfl⟩
/-- at a bracket -/
theorem closing_any (s : ByteArray) (hs : s.size ≤ 100000) (f : Nat) (hf : f + 1 < s.size) (o : UInt8) (ho : s[f + 1] = o) (hoc : o = 40 ∨ o = 123) (w : World) :
    Calls Tryz.prog 48 #[.string s, .int .i64 f] w fun e w' => e = .returned (.int .i64 (clI (cls o (shut o) (f + 2) 0 ((tl s).drop (f + 2))))) ∧ w' = w :=
  closing_b s hs f hf o (shut o) ho (by rcases hoc with rfl | rfl; exact .inl ⟨rfl, rfl⟩; exact .inr ⟨rfl, rfl⟩) w
set_option maxHeartbeats 2000000 in
/-- refs.begin -/
theorem begin_any (s : ByteArray) (hs : s.size ≤ 100000) (a : Nat) (ha : a < s.size) (w : World) :
    Calls Tryz.prog 42 #[.string s, .int .i64 a] w fun e w' => e = ret2 (bg (tl s) a).1 (bg (tl s) a).2 ∧ Below w.heap.size w w' := by
  have hga := getD_at s a ha
  have hl := tl_len s
  by_cases h1 : s[a] = 36
  · by_cases h2 : a + 1 < s.size
    · have hgb := getD_at s (a + 1) h2
      have d1 : ((s[a].toNat : Int) != 36) = false := by rw [h1]; decide
      have d2 : ((a : Int) + 1 == (s.size : Int)) = false := beq_eq_false_iff_ne.2 (by omega)
      have d3 : (((a + 1 : Nat) : Int) == (s.size : Int)) = false := beq_eq_false_iff_ne.2 (by omega)
      by_cases h3 : s[a + 1] = 36
      · have HR : Hid (bg (tl s) a = (0, a + 2)) := by
          show _ = _
          unfold bg
          rw [hga, hgb, hl, if_pos ⟨h1, h2⟩, if_pos h3]
        have e1 : (s[a + 1].toNat : Int) = 36 := by rw [h3]; decide
        clear hga hgb h1 h3 hl
        go_enter Tryz.func42, Tryz.ntmps42
        go_wp2
        go_ret2
        rw [HR.out]
        exact ⟨by simp, Below.refl _ _⟩
      · have e1 : ((s[a + 1].toNat : Int) == 36) = false := beq_no _ 36 36 rfl h3
        by_cases h4 : s[a + 1] = 123
        · have HR : Hid (bg (tl s) a = brkR (tl s) s[a + 1] 125 (a + 1)) := by
            show _ = _
            unfold bg
            rw [hga, hgb, hl, if_pos ⟨h1, h2⟩, if_neg h3, if_pos (.inl h4), h4]
            rfl
          have e2 : ((s[a + 1].toNat : Int) == 123) = true := beq_yes _ 123 123 rfl h4
          have kB : ∀ w, Calls Tryz.prog 67 #[.string s, .int .i64 ((a + 1 : Nat) : Int), .int .u8 125] w _ := fun w => bracketed_any s hs (a + 1) h2 125 (by rw [h4]; decide) w
          have hc : ((a + 1 : Nat) : Int) = (a : Int) + 1 := by omega
          rw [hc] at kB
          clear hga hgb h1 h3 h4 hl hc
          go_enter Tryz.func42, Tryz.ntmps42
          go_wp2_with (go_at_call 67; refine (kB _).mono ?_; rintro e w1 ⟨rfl, hb1⟩)
          go_ret2
          rw [HR.out]
          exact ⟨by simp, hb1⟩
        · have e2 : ((s[a + 1].toNat : Int) == 123) = false := beq_no _ 123 123 rfl h4
          by_cases h5 : s[a + 1] = 40
          · have HR : Hid (bg (tl s) a = brkR (tl s) s[a + 1] 41 (a + 1)) := by
              show _ = _
              unfold bg
              rw [hga, hgb, hl, if_pos ⟨h1, h2⟩, if_neg h3, if_pos (.inr h5), h5]
              rfl
            have e3 : ((s[a + 1].toNat : Int) == 40) = true := beq_yes _ 40 40 rfl h5
            have kB : ∀ w, Calls Tryz.prog 67 #[.string s, .int .i64 ((a + 1 : Nat) : Int), .int .u8 41] w _ := fun w => bracketed_any s hs (a + 1) h2 41 (by rw [h5]; decide) w
            have hc : ((a + 1 : Nat) : Int) = (a : Int) + 1 := by omega
            rw [hc] at kB
            clear hga hgb h1 h3 h4 h5 hl hc
            go_enter Tryz.func42, Tryz.ntmps42
            go_wp2_with (go_at_call 67; refine (kB _).mono ?_; rintro e w1 ⟨rfl, hb1⟩)
            go_ret2
            rw [HR.out]
            exact ⟨by simp, hb1⟩
          · have HR : Hid (bg (tl s) a = (1, a + 2)) := by
              show _ = _
              unfold bg
              rw [hga, hgb, hl, if_pos ⟨h1, h2⟩, if_neg h3, if_neg (by rintro (h | h); exact h4 h; exact h5 h)]
            have e3 : ((s[a + 1].toNat : Int) == 40) = false := beq_no _ 40 40 rfl h5
            clear hga hgb h1 h3 h4 h5 hl
            go_enter Tryz.func42, Tryz.ntmps42
            go_wp2
            go_ret2
            rw [HR.out]
            exact ⟨by simp, Below.refl _ _⟩
    · have HR : Hid (bg (tl s) a = (0, a + 1)) := by
        show _ = _
        unfold bg
        rw [hl, if_neg (fun h => h2 h.2)]
      have d1 : ((s[a].toNat : Int) != 36) = false := by rw [h1]; decide
      have d2 : ((a : Int) + 1 == (s.size : Int)) = true := beq_iff_eq.2 (by omega)
      clear hga h1 hl
      go_enter Tryz.func42, Tryz.ntmps42
      go_wp2
      go_ret2
      rw [HR.out]
      exact ⟨by simp, Below.refl _ _⟩
  · have HR : Hid (bg (tl s) a = (0, a + 1)) := by
      show _ = _
      unfold bg
      rw [hga, if_neg (fun h => h1 h.1)]
    have d1 : ((s[a].toNat : Int) != 36) = true := bne_yes _ 36 36 rfl h1
    clear hga h1 hl
    go_enter Tryz.func42, Tryz.ntmps42
    go_wp2
    go_ret2
    rw [HR.out]
    exact ⟨by simp, Below.refl _ _⟩
end Go.Proofs.YtchnimlnoolkiaaGreatDoor
