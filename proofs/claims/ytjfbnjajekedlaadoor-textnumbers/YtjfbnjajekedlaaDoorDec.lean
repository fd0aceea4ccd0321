/- The contracts of anvilref1.Number and anvilref1.Decimal; what a number's digits are as a number. -/
import Derived.Test.YtjfbnjajekedlaaDoorRepl
import Derived.Test.YtjfbnjajekedlaaDoorNum
namespace Go.Proofs.YtjfbnjajekedlaaDoor
open Go.RowKit Go.Shelf

theorem dec_small (u : Nat) (h : u < 10) : Lib.decDigits u = [UInt8.ofNat (48 + u)] := Lib.decDigits_one h
theorem dec_step (u : Nat) (h : ¬ u < 10) : Lib.decDigits u = Lib.decDigits (u / 10) ++ [UInt8.ofNat (48 + u % 10)] := by
  conv => lhs; rw [Lib.decDigits, dif_neg h]
theorem digit_nat (k : Nat) (h : k < 10) : (UInt8.ofNat (48 + k)).toNat = 48 + k := by
  rw [UInt8.toNat_ofNat']
  exact Nat.mod_eq_of_lt (by omega)
theorem dec_all (u : Nat) : (Lib.decDigits u).all dg = true := by
  induction u using Nat.strongRecOn with
  | ind u ih =>
    by_cases h : u < 10
    · rw [dec_small u h]
      simp only [List.all_cons, List.all_nil, Bool.and_true]
      rw [dg_iff, digit_nat u h]
      omega
    · rw [dec_step u h, List.all_append, ih (u / 10) (by omega)]
      simp only [List.all_cons, List.all_nil, Bool.and_true, Bool.true_and]
      rw [dg_iff, digit_nat _ (Nat.mod_lt _ (by decide))]
      omega
theorem dec_nv (u : Nat) : nv 0 (Lib.decDigits u) = u := by
  induction u using Nat.strongRecOn with
  | ind u ih =>
    by_cases h : u < 10
    · rw [dec_small u h]
      simp only [nv]
      rw [digit_nat u h]
      omega
    · rw [dec_step u h, nv_snoc, ih (u / 10) (by omega), digit_nat _ (Nat.mod_lt _ (by decide))]
      omega
theorem dec_pos (u : Nat) : 1 ≤ (Lib.decDigits u).length := by
  by_cases h : u < 10
  · rw [dec_small u h]; simp
  · rw [dec_step u h]; simp
theorem dec_len (k : Nat) : ∀ u, (Lib.decDigits u).length ≤ k + 1 ↔ u < 10 ^ (k + 1) := by
  induction k with
  | zero =>
    intro u
    by_cases h : u < 10
    · rw [dec_small u h]; simp; omega
    · rw [dec_step u h, List.length_append, List.length_singleton]
      have := dec_pos (u / 10)
      have e : 10 ^ (0 + 1) = 10 := rfl
      rw [e]
      omega
  | succ k ih =>
    intro u
    have hp : 10 ≤ 10 ^ (k + 1) := by
      have := Nat.pow_le_pow_right (n := 10) (by decide) (show 1 ≤ k + 1 by omega)
      simpa using this
    by_cases h : u < 10
    · rw [dec_small u h, Nat.pow_succ]; simp; omega
    · rw [dec_step u h, List.length_append, List.length_singleton, Nat.add_le_add_iff_right, ih (u / 10), Nat.pow_succ 10 (k + 1)]
      omega
theorem itoa_yes (n : Int) (h0 : 0 ≤ n) (h1 : n < 1000000000) : isNum (Lib.itoa n) = true ∧ numOf (Lib.itoa n) = n := by
  obtain ⟨u, rfl⟩ := Int.eq_ofNat_of_zero_le h0
  have e : isNum (Lib.itoa (u : Int)) = true := by
    rw [Lib.itoa_nonneg]
    have hl := (dec_len 8 u).2 (by show u < 1000000000; omega)
    have := dec_pos u
    simp only [isNum, dec_all, Bool.and_true, Bool.and_eq_true, decide_eq_true_eq]
    omega
  refine ⟨e, ?_⟩
  rw [numOf, e, if_pos rfl, Lib.itoa_nonneg, dec_nv]
theorem itoa_no (n : Int) (h : n < 0 ∨ 1000000000 ≤ n) : isNum (Lib.itoa n) = false := by
  rcases h with h | h
  · have e : Lib.itoa n = 45 :: Lib.decDigits n.natAbs := by unfold Lib.itoa; rw [if_pos h]
    have hd : dg 45 = false := by decide
    rw [e]
    simp [isNum, hd]
  · obtain ⟨u, rfl⟩ := Int.eq_ofNat_of_zero_le (show 0 ≤ n by omega)
    rw [Lib.itoa_nonneg]
    have hl : ¬ (Lib.decDigits u).length ≤ 9 := fun hh => by
      have := (dec_len 8 u).1 hh
      have e : 10 ^ (8 + 1) = 1000000000 := by decide
      omega
    simp [isNum, hl]

theorem rnumber_len (s : ByteArray) (w : World) (h : s.size < 1 ∨ 9 < s.size) (hs : s.size ≤ maxLen) :
    Calls Tryd.prog 30 #[.string s] w fun e w' => e = .returned (.tuple #[.int .i64 0, .bool false]) ∧ w' = w := by
  unfold maxLen at hs
  by_cases h1 : s.size < 1
  · have k1 : (s.size : Int) < 1 := by omega
    go_enter Tryd.func30, Tryd.ntmps30
    go_wp2
    go_ret2
    exact ⟨rfl, rfl⟩
  · have k1 : ¬ (s.size : Int) < 1 := by omega
    have k2 : (9 : Int) < s.size := by omega
    go_enter Tryd.func30, Tryd.ntmps30
    go_wp2
    go_ret2
    exact ⟨rfl, rfl⟩

set_option maxHeartbeats 400000 in
theorem rnumber_walk (s : ByteArray) (w : World) (h1 : 1 ≤ s.size) (h9 : s.size ≤ 9) :
    Calls Tryd.prog 30 #[.string s] w fun e w' => e = .returned (.tuple #[.int .i64 (numOf s.data.toList), .bool (isNum s.data.toList)]) ∧ w' = w := by
  have k1 : ¬ (s.size : Int) < 1 := by omega
  have k2 : ¬ (9 : Int) < s.size := by omega
  go_enter Tryd.func30, Tryd.ntmps30
  go_wp2
  go_loop [4, 5] (fun n i => ∃ k : Nat, k ≤ s.size ∧ i = .int .i64 k ∧ (s.data.toList.take k).all dg = true ∧ n = .int .i64 (nv 0 (s.data.toList.take k))) (fun _ i => s.size - (intOf i).toNat)
  case atStart => exact ⟨0, Nat.zero_le _, rfl, rfl, rfl⟩
  case round =>
    obtain ⟨k, hk, rfl, ha, rfl⟩ := hrel
    have hb := nv_bd9 _ ha (by simp; omega)
    by_cases hlt : k < s.size
    · have hsn := nv_snoc 0 (s.data.toList.take k) s[k]
      have hal : (s.data.toList.take (k + 1)).all dg = ((s.data.toList.take k).all dg && dg s[k]) := by rw [take_snoc s k hlt]; simp
      rw [← take_snoc s k hlt] at hsn
      have HS := hide hsn
      clear hsn
      by_cases hd : dg s[k] = true
      · have h2 := (dg_iff _).1 hd
        have hal' : (s.data.toList.take (k + 1)).all dg = true := by rw [hal, ha, hd]; rfl
        have j1 : ¬ (s[k].toNat : Int) < 48 := by omega
        have j2 : ¬ (57 : Int) < s[k].toNat := by omega
        clear hal hd ha
        go_wp2
        exact ⟨⟨k + 1, by omega, by go_num, hal', by rw [unhide HS]; go_num⟩, by simp [intOf]; omega⟩
      · have h2 : s[k].toNat < 48 ∨ 57 < s[k].toNat := by
          have := mt (dg_iff s[k]).2 hd
          omega
        have hfin : isNum s.data.toList = false := by
          simp only [isNum, Bool.and_eq_false_iff]
          right
          rw [← List.take_append_drop (k + 1) s.data.toList, List.all_append, hal]
          simp [hd]
        have hz : numOf s.data.toList = 0 := by rw [numOf, hfin]; rfl
        have HF := hide hfin
        have HZ := hide hz
        clear hal hd ha hfin hz HS
        by_cases j1 : (s[k].toNat : Int) < 48
        · go_wp2
          go_ret2
          exact ⟨by rw [unhide HF, unhide HZ]; rfl, rfl⟩
        · have j2 : (57 : Int) < s[k].toNat := by omega
          go_wp2
          go_ret2
          exact ⟨by rw [unhide HF, unhide HZ]; rfl, rfl⟩
    · have hke : s.data.toList.take k = s.data.toList := List.take_of_length_le (by simp; omega)
      have hfin : isNum s.data.toList = true := by
        rw [hke] at ha
        have hl : s.data.toList.length = s.size := by simp
        simp only [isNum, ha, Bool.and_true, Bool.and_eq_true, decide_eq_true_eq, hl]
        omega
      have hz : nv 0 (s.data.toList.take k) = numOf s.data.toList := by rw [numOf, hfin, hke]; rfl
      have HF := hide hfin
      have HZ := hide hz
      clear hke hfin hz ha
      go_wp2
      go_ret2
      exact ⟨by rw [unhide HF, unhide HZ]; rfl, rfl⟩

theorem rnumber_any (s : ByteArray) (w : World) (hs : s.size ≤ maxLen) :
    Calls Tryd.prog 30 #[.string s] w fun e w' => e = .returned (.tuple #[.int .i64 (numOf s.data.toList), .bool (isNum s.data.toList)]) ∧ w' = w := by
  by_cases h : 1 ≤ s.size ∧ s.size ≤ 9
  · exact rnumber_walk s w h.1 h.2
  · have hn : isNum s.data.toList = false := by
      have hl : s.data.toList.length = s.size := by simp
      simp only [isNum, Bool.and_eq_false_iff, decide_eq_false_iff_not, hl]
      left
      omega
    have hz : numOf s.data.toList = 0 := by rw [numOf, hn]; rfl
    rw [hn, hz]
    exact rnumber_len s w (by omega) hs

theorem piece : ∀ k : Fin 10, (⟨#[48, 49, 50, 51, 52, 53, 54, 55, 56, 57]⟩ : ByteArray).extract k.val (k.val + 1) = ⟨#[UInt8.ofNat (48 + k.val)]⟩ := by decide +kernel
theorem piece_at (k : Nat) (h : k < 10) : (⟨#[48, 49, 50, 51, 52, 53, 54, 55, 56, 57]⟩ : ByteArray).extract k (k + 1) = ⟨#[UInt8.ofNat (48 + k)]⟩ := piece ⟨k, h⟩
theorem dec_size (u : Nat) (h : u ≤ 9223372036854775808) : (⟨(Lib.decDigits u).toArray⟩ : ByteArray).size ≤ 20 := by
  show (Lib.decDigits u).toArray.size ≤ 20
  rw [List.size_toArray]
  exact (dec_len 19 u).2 (by have e : 10 ^ (19 + 1) = 100000000000000000000 := by decide
                             omega)
theorem ret_str {a b : ByteArray} (h : a = b) : Ending.returned (.string a) = .returned (.string b) := by rw [h]

set_option maxHeartbeats 400000 in
theorem rdecimal_nat (k : Nat) : ∀ u : Nat, u ≤ k → u ≤ 9223372036854775807 → ∀ w : World,
    Calls Tryd.prog 32 #[.int .i64 u] w fun e w' => e = .returned (.string ⟨(Lib.decDigits u).toArray⟩) ∧ w' = w := by
  induction k using Nat.strongRecOn with
  | ind k ih =>
    intro u hu hb w
    by_cases h : u < 10
    · have j1 : ¬ (u : Int) < 0 := by omega
      have j2 : ¬ (9 : Int) < u := by omega
      go_enter Tryd.func32, Tryd.ntmps32
      go_wp2
      go_ret
      exact ⟨ret_str (by rw [dec_small u h, Nat.mod_eq_of_lt h, piece_at u h]), rfl⟩
    · have j1 : ¬ (u : Int) < 0 := by omega
      have j2 : (9 : Int) < u := by omega
      have hd := dec_step u h
      have hz := dec_size (u / 10) (by omega)
      have kr : ∀ w, Calls Tryd.prog 32 #[.int .i64 ((u : Int) / 10)] w fun e w' => e = .returned (.string ⟨(Lib.decDigits (u / 10)).toArray⟩) ∧ w' = w := fun w => by
        have := ih (u / 10) (by omega) (u / 10) (Nat.le_refl _) (by omega) w
        rwa [show ((u / 10 : Nat) : Int) = (u : Int) / 10 by omega] at this
      have hfin : (⟨(Lib.decDigits (u / 10)).toArray⟩ : ByteArray) ++ (⟨#[UInt8.ofNat (48 + u % 10)]⟩ : ByteArray) = ⟨(Lib.decDigits u).toArray⟩ := by
        rw [hd, ByteArray.mk_append_mk]
      have HF := hide hfin
      have HP := hide (piece_at (u % 10) (Nat.mod_lt _ (by decide)))
      generalize Lib.decDigits u = du at HF ⊢
      generalize (⟨(Lib.decDigits (u / 10)).toArray⟩ : ByteArray) = d at hz kr HF
      clear ih hd hfin
      go_enter Tryd.func32, Tryd.ntmps32
      go_wp2_with (go_at_call 32; refine (kr _).mono ?_; rintro e w' ⟨rfl, rfl⟩)
      go_ret
      exact ⟨ret_str (by rw [← unhide HF, ← unhide HP]), rfl⟩

theorem itoa_min : Lib.itoa (-9223372036854775808) = [45, 57, 50, 50, 51, 51, 55, 50, 48, 51, 54, 56, 53, 52, 55, 55, 53, 56, 48, 56] := by
  have e := Lib.itoa_neg 9223372036854775808 (by decide)
  rw [show (-((9223372036854775808 : Nat) : Int)) = -9223372036854775808 from rfl] at e
  rw [e]
  simp [Lib.decDigits]

set_option maxHeartbeats 400000 in
theorem rdecimal_any (n : Int) (h0 : -9223372036854775808 ≤ n) (h1 : n ≤ 9223372036854775807) (w : World) :
    Calls Tryd.prog 32 #[.int .i64 n] w fun e w' => e = .returned (.string ⟨(Lib.itoa n).toArray⟩) ∧ w' = w := by
  by_cases hn : 0 ≤ n
  · obtain ⟨u, rfl⟩ := Int.eq_ofNat_of_zero_le hn
    rw [Lib.itoa_nonneg]
    exact rdecimal_nat u u (Nat.le_refl _) (by omega) w
  · by_cases hm : n = -9223372036854775808
    · subst hm
      rw [itoa_min]
      go_enter Tryd.func32, Tryd.ntmps32
      go_wp2
      go_ret
      exact ⟨rfl, rfl⟩
    · have hm' : (n == -9223372036854775808) = false := beq_eq_false_iff_ne.2 hm
      obtain ⟨u, hu⟩ : ∃ u : Nat, -n = u := ⟨(-n).toNat, by omega⟩
      have hn' : n < 0 := by omega
      have hbd : -9223372036854775808 < n := by omega
      have e : Lib.itoa n = 45 :: Lib.decDigits u := by
        have := Lib.itoa_neg u (by omega)
        rwa [show -(u : Int) = n by omega] at this
      have hz := dec_size u (by omega)
      have kr : ∀ w, Calls Tryd.prog 32 #[.int .i64 (-n)] w fun e w' => e = .returned (.string ⟨(Lib.decDigits u).toArray⟩) ∧ w' = w := fun w => by
        rw [hu]
        exact rdecimal_nat u u (Nat.le_refl _) (by omega) w
      have hfin : (⟨#[45]⟩ : ByteArray) ++ (⟨(Lib.decDigits u).toArray⟩ : ByteArray) = ⟨(Lib.itoa n).toArray⟩ := by
        rw [e, ByteArray.mk_append_mk]
        simp
      have HF := hide hfin
      generalize Lib.itoa n = it at HF ⊢
      generalize (⟨(Lib.decDigits u).toArray⟩ : ByteArray) = d at hz kr HF
      clear hfin e hu hm hn h0
      go_enter Tryd.func32, Tryd.ntmps32
      go_wp2_with (go_at_call 32; refine (kr _).mono ?_; rintro e w' ⟨rfl, rfl⟩)
      go_ret
      exact ⟨ret_str (by rw [← unhide HF]), rfl⟩
end Go.Proofs.YtjfbnjajekedlaaDoor
