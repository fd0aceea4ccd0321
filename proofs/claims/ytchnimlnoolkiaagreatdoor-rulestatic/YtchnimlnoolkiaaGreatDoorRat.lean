/- The contracts of anvilref1.Begins, and of the reference's at and sets. -/
import Derived.Test.YtchnimlnoolkiaaGreatDoorSco
namespace Go.Proofs.YtchnimlnoolkiaaGreatDoor
open Go.RowKit Go.Shelf

theorem pre_take (l p : Bs) : Lib.hasPrefix l p = (l.take p.length == p) := by
  unfold Lib.hasPrefix
  rw [Bool.eq_iff_iff]
  constructor
  · intro h
    have h1 := List.isPrefixOf_iff_prefix.1 h
    rw [List.prefix_iff_eq_take] at h1
    rw [← h1]
    exact beq_self_eq_true _
  · intro h
    exact List.isPrefixOf_iff_prefix.2 (by rw [List.prefix_iff_eq_take]; exact (eq_of_beq h).symm)
theorem beq_list (a b : ByteArray) : (a.toList == b.toList) = (tl a == tl b) := by rw [Lib.toList_data, Lib.toList_data]; rfl
set_option maxHeartbeats 1000000 in
theorem begins_any (s : ByteArray) (k : Nat) (t : ByteArray) (hs : s.size ≤ 1000000) (hk : k ≤ s.size) (ht : t.size ≤ 1000) (w : World) : Calls Tryz.prog 70 #[.string s, .int .i64 k, .string t] w fun e w' => e = .returned (.bool (Lib.hasPrefix ((tl s).drop k) (tl t))) ∧ w' = w := by
  have hw1 : IntKind.i64.wrap ((s.size : Int) - (t.size : Int)) = (s.size : Int) - (t.size : Int) := i64_id _ ⟨by omega, by omega⟩
  have hw2 : IntKind.i64.wrap ((k : Int) + (t.size : Int)) = (k : Int) + (t.size : Int) := i64_id _ ⟨by omega, by omega⟩
  by_cases h : k + t.size ≤ s.size
  · have d1 : decide ((k : Int) ≤ (s.size : Int) - (t.size : Int)) = true := decide_eq_true (by omega)
    have d2 : (k : Int) ≤ (s.size : Int) - (t.size : Int) := by omega
    have e1 : ((s.extract k (k + t.size)).toList == t.toList) = Lib.hasPrefix ((tl s).drop k) (tl t) := by
      rw [beq_list, ext_mk, tl_mk, pre_take, tl_len]
      congr 3
      omega
    have e2 : ∀ W, (Instr.slice 9 (.string s) (some (.int .i64 k)) (some (.int .i64 ((k : Int) + (t.size : Int)))) none).run Tryz.prog W = .ok (.string (s.extract k (k + t.size))) W := fun W => by
      rw [run_slice_string_if (P := Tryz.prog) W 9 s .i64 .i64 k ((k : Int) + (t.size : Int)) Tryz.underlying9, if_pos ⟨by omega, by omega⟩, if_pos ⟨by omega, by omega⟩]
      rw [show ((k : Int)).toNat = k by omega, show ((k : Int) + (t.size : Int)).toNat = k + t.size by omega]
    generalize Lib.hasPrefix ((tl s).drop k) (tl t) = R at e1
    generalize s.extract k (k + t.size) = X at e1 e2
    go_enter Tryz.func70, Tryz.ntmps70
    go_wp2
    go_ret
    exact ⟨rfl, rfl⟩
  · have d1 : decide ((k : Int) ≤ (s.size : Int) - (t.size : Int)) = false := decide_eq_false (by omega)
    have d2 : ¬ (k : Int) ≤ (s.size : Int) - (t.size : Int) := by omega
    have e1 : Lib.hasPrefix ((tl s).drop k) (tl t) = false := by
      rw [Bool.eq_false_iff]
      intro hp
      have := (List.isPrefixOf_iff_prefix.1 hp).length_le
      rw [List.length_drop, tl_len, tl_len] at this
      omega
    rw [e1]
    clear e1
    go_enter Tryz.func70, Tryz.ntmps70
    go_wp2
    go_ret
    exact ⟨rfl, rfl⟩
theorem at_any (s : ByteArray) (k : Nat) (t : ByteArray) (hs : s.size ≤ 1000000) (hk : k ≤ s.size) (ht : t.size ≤ 1000) (w : World) : Calls Tryz.prog 49 #[.string s, .int .i64 k, .string t] w fun e w' => e = .returned (.bool (Lib.hasPrefix ((tl s).drop k) (tl t))) ∧ w' = w := by
  have q := begins_any s k t hs hk ht w
  generalize Lib.hasPrefix ((tl s).drop k) (tl t) = R at q
  go_enter Tryz.func49, Tryz.ntmps49
  go_wp2_with (go_at_call 70; refine q.mono ?_; rintro e w1 ⟨rfl, rfl⟩)
  go_ret
  exact ⟨rfl, rfl⟩
theorem sep_simple (l : Bs) : (sepP l).2 = (Lib.hasPrefix l [58, 61] || Lib.hasPrefix l [58, 58, 61]) := by
  unfold sepP
  cases h1 : Lib.hasPrefix l [58, 58, 61] with
  | true => simp
  | false =>
    cases h2 : Lib.hasPrefix l [58, 61] with
    | true => simp
    | false =>
      simp only [Bool.false_eq_true, if_false, Bool.or_false]
      split
      · rfl
      · split <;> rfl
set_option maxHeartbeats 1000000 in
theorem sets_any (s : ByteArray) (k : Nat) (hs : s.size ≤ 1000000) (hk : k < s.size) (w : World) : Calls Tryz.prog 26 #[.string s, .int .i64 k] w fun e w' => e = .returned (.bool (setB s k)) ∧ w' = w := by
  have q1 : ∀ w, Calls Tryz.prog 49 #[.string s, .int .i64 k, .string ⟨#[58, 61]⟩] w fun e w' => e = .returned (.bool (Lib.hasPrefix ((tl s).drop k) [58, 61])) ∧ w' = w := fun w => at_any s k ⟨#[58, 61]⟩ hs (by omega) (by decide) w
  have q2 : ∀ w, Calls Tryz.prog 49 #[.string s, .int .i64 k, .string ⟨#[58, 58, 61]⟩] w fun e w' => e = .returned (.bool (Lib.hasPrefix ((tl s).drop k) [58, 58, 61])) ∧ w' = w := fun w => at_any s k ⟨#[58, 58, 61]⟩ hs (by omega) (by decide) w
  have hS : setB s k = (((Lib.hasPrefix ((tl s).drop k) [58, 61]) || (Lib.hasPrefix ((tl s).drop k) [58, 58, 61])) || (s[k] == 61)) := by
    unfold setB
    rw [sep_simple, getD_at s k hk]
  rw [hS]
  clear hS
  generalize Lib.hasPrefix ((tl s).drop k) [58, 58, 61] = b2 at q2
  by_cases h1 : s[k] = 61
  · have d1 : ((s[k].toNat : Int) == 61) = true := beq_yes _ 61 61 rfl h1
    have d2 : (s[k] == 61) = true := beq_iff_eq.2 h1
    rw [d2, Bool.or_true]
    generalize Lib.hasPrefix ((tl s).drop k) [58, 61] = b1 at q1
    clear h1 d2
    go_enter Tryz.func26, Tryz.ntmps26
    go_wp2_with fail
    refine (q1 _).mono ?_
    rintro e w1 ⟨rfl, rfl⟩
    go_wp2_with fail
    refine (q2 _).mono ?_
    rintro e w1 ⟨rfl, rfl⟩
    go_wp2
    go_ret
    exact ⟨rfl, rfl⟩
  · have d1 : ((s[k].toNat : Int) == 61) = false := beq_no _ 61 61 rfl h1
    have d2 : (s[k] == 61) = false := beq_eq_false_iff_ne.2 h1
    rw [d2, Bool.or_false]
    clear d2
    have d4 : ¬ (s[k].toNat : Int) = 61 := fun h => h1 (UInt8.toNat_inj.1 (by have e9 : (61 : UInt8).toNat = 61 := rfl; omega))
    clear h1
    cases hb : Lib.hasPrefix ((tl s).drop k) [58, 61] with
    | true =>
      rw [hb] at q1
      clear hb
      go_enter Tryz.func26, Tryz.ntmps26
      go_wp2_with fail
      refine (q1 _).mono ?_
      rintro e w1 ⟨rfl, rfl⟩
      go_wp2_with fail
      refine (q2 _).mono ?_
      rintro e w1 ⟨rfl, rfl⟩
      go_wp2
      go_ret
      exact ⟨rfl, rfl⟩
    | false =>
      rw [hb] at q1
      clear hb
      go_enter Tryz.func26, Tryz.ntmps26
      go_wp2_with fail
      refine (q1 _).mono ?_
      rintro e w1 ⟨rfl, rfl⟩
      go_wp2_with fail
      refine (q2 _).mono ?_
      rintro e w1 ⟨rfl, rfl⟩
      go_wp2
      go_ret
      exact ⟨by simp, rfl⟩
end Go.Proofs.YtchnimlnoolkiaaGreatDoor
