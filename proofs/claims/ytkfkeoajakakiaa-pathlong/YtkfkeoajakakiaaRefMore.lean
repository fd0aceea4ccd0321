/- The contracts of anvilref1.Parent, Tail and Index. -/
import Derived.Test.YtkfkeoajakakiaaRefClean
namespace Go.Proofs.Ytkfkeoajakakiaa
open Go.RowKit Go.Shelf

theorem rkept_any (s : ByteArray) (hs : s.size ≤ 400000) (w : World) :
    Calls Try.prog 27 #[.string (mk (clean (tl s)))] w fun e W' => ∃ v : Value, e = .returned v ∧ Row W' w.heap.size v (kpt (tl s)) ∧ Below w.heap.size w W' := by
  have := rnames_any (mk (clean (tl s))) (clean_size s hs) w
  rwa [tl_mk (clean (tl s)), nms_clean] at this

set_option maxHeartbeats 400000 in
theorem rparent_any (s : ByteArray) (hs : s.size ≤ 400000) (w : World) :
    Calls Try.prog 13 #[.string s] w fun e w' => e = .returned (.string (mk (parent (tl s)))) ∧ Below w.heap.size w w' := by
  have ht := kpt_tw' s (by omega)
  have HP : Hid (parent (tl s) = sl true (kpt (tl s)).dropLast) := rfl
  have hc := rclean_any s hs
  have hk := rkept_any s hs
  generalize mk (clean (tl s)) = c at hc hk
  go_enter Try.func13, Try.ntmps13
  go_wp2_with fail
  refine (hc _).mono ?_
  rintro e w0 ⟨rfl, hB0⟩
  go_wp2_with fail
  refine (hk _).mono ?_
  rintro e w1 ⟨v, rfl, hrow, hB1⟩
  have hB := hB0.trans (hB1.mono hB0.size)
  clear hB0 hB1 hc hk
  by_cases h0 : kpt (tl s) = []
  · rw [h0] at hrow HP
    have hv : ∃ a c, v = .slice a 0 c := by
      rcases hrow.2 with ⟨rfl, _⟩ | ⟨g, cap, cur, rfl, _⟩
      · exact ⟨_, _, rfl⟩
      · exact ⟨_, _, rfl⟩
    obtain ⟨a, c, rfl⟩ := hv
    clear h0 hrow ht
    go_wp2
    go_ret
    exact ⟨ret_str (by rw [HP.out]; rfl), hB⟩
  · obtain ⟨g, cap, rfl, d1, d2, _, _, hrow2⟩ := row_form hrow h0
    have hpos : 0 < (kpt (tl s)).length := List.length_pos_iff.2 h0
    have ht2 : tw (kpt (tl s)).dropLast ≤ 1000000 := Nat.le_trans (tw_dropLast _) ht
    have hj := slashed_any _ _ _ (Strs.of_row hrow2) ht2
    rw [← HP.out] at hj
    generalize (kpt (tl s)).length = n at hpos d1 hj
    clear hrow hrow2 ht h0 ht2 HP
    unfold maxLen at d2
    obtain ⟨m, rfl⟩ : ∃ m, n = m + 1 := ⟨n - 1, by omega⟩
    rw [Nat.add_sub_cancel] at hj
    have hz : (((m + 1 : Nat) : Int) == 0) = false := beq_eq_false_iff_ne.2 (by omega)
    go_wp2_with fail
    refine hj.mono ?_
    rintro e w2 ⟨rfl, rfl⟩
    go_wp2
    go_ret
    exact ⟨rfl, hB⟩

theorem getD_last (K : List (List UInt8)) (m : Nat) (h : K.length = m + 1) : K.getD m [] = K.getLastD [] := by
  rcases List.eq_nil_or_concat K with rfl | ⟨B, x, rfl⟩
  · simp at h
  · rw [List.concat_eq_append] at h ⊢
    have hm : m = B.length := by simp at h; omega
    subst hm
    simp [List.getLastD_eq_getLast?]

set_option maxHeartbeats 400000 in
theorem rtail_any (s : ByteArray) (hs : s.size ≤ 400000) (w : World) :
    Calls Try.prog 15 #[.string s] w fun e w' => e = .returned (.string (mk (last (tl s)))) ∧ Below w.heap.size w w' := by
  have ht := kpt_tw' s (by omega)
  have HP : Hid (last (tl s) = (kpt (tl s)).getLastD []) := rfl
  have hc := rclean_any s hs
  have hk := rkept_any s hs
  generalize mk (clean (tl s)) = c at hc hk
  go_enter Try.func15, Try.ntmps15
  go_wp2_with fail
  refine (hc _).mono ?_
  rintro e w0 ⟨rfl, hB0⟩
  go_wp2_with fail
  refine (hk _).mono ?_
  rintro e w1 ⟨v, rfl, hrow, hB1⟩
  have hB := hB0.trans (hB1.mono hB0.size)
  clear hB0 hB1 hc hk
  by_cases h0 : kpt (tl s) = []
  · rw [h0] at hrow HP
    have hv : ∃ a c, v = .slice a 0 c := by
      rcases hrow.2 with ⟨rfl, _⟩ | ⟨g, cap, cur, rfl, _⟩
      · exact ⟨_, _, rfl⟩
      · exact ⟨_, _, rfl⟩
    obtain ⟨a, c, rfl⟩ := hv
    clear h0 hrow ht
    go_wp2
    go_ret
    exact ⟨ret_str (by rw [HP.out]; rfl), hB⟩
  · obtain ⟨g, cap, rfl, d1, d2, _, hcell, _⟩ := row_form hrow h0
    have hpos : 0 < (kpt (tl s)).length := List.length_pos_iff.2 h0
    obtain ⟨m, hm⟩ : ∃ m, (kpt (tl s)).length = m + 1 := ⟨(kpt (tl s)).length - 1, by omega⟩
    have c1 := hcell m (by omega)
    rw [getD_last _ _ hm, ← HP.out] at c1
    have hml : m + 1 ≤ 1000000 := by have := len_tw (kpt (tl s)); omega
    rw [hm] at d1 ⊢
    clear hcell hpos hm h0 HP hrow ht
    obtain ⟨x, hx⟩ : ∃ x, x = last (tl s) := ⟨_, rfl⟩
    rw [← hx] at c1
    have HX := hide' hx
    clear hx
    unfold maxLen at d2
    have hz : (((m + 1 : Nat) : Int) == 0) = false := beq_eq_false_iff_ne.2 (by omega)
    go_wp2
    go_ret
    exact ⟨ret_str (by rw [HX.out]), hB⟩

set_option maxHeartbeats 400000 in
theorem rindex_no (c : UInt8) (cn : Nat) (hcn : c.toNat = cn) (s : ByteArray) (w : World) (hs : s.size ≤ 1000000) (h : c ∉ tl s) :
    Calls Try.prog 31 #[.string s, .int .u8 cn] w fun e w' => e = .returned (.int .i64 (-1)) ∧ w' = w := by
  have HN : Hid (∀ k (h : k < s.size), ¬ s[k] = c) := fun k hk e => h (by rw [← e, ← getD_at s k hk, List.getD_eq_getElem?_getD, List.getElem?_eq_getElem (by rw [tl_len]; exact hk)]; exact List.getElem_mem _)
  clear h
  go_enter Try.func31, Try.ntmps31
  go_wp2
  go_loop [5] (fun i => ∃ k : Nat, k ≤ s.size ∧ i = .int .i64 k) (fun i => s.size - (intOf i).toNat)
  case atStart => exact ⟨0, Nat.zero_le _, rfl⟩
  case round =>
    obtain ⟨k, hk, rfl⟩ := hrel
    by_cases hlt : k < s.size
    · have k1 := beq_no s[k] c cn hcn (HN.out k hlt)
      go_wp2
      exact ⟨⟨k + 1, by omega, by go_num⟩, by simp [intOf]; omega⟩
    · go_wp2
      go_ret
      exact ⟨rfl, rfl⟩

set_option maxHeartbeats 400000 in
theorem rindex_yes (c : UInt8) (cn : Nat) (hcn : c.toNat = cn) (s : ByteArray) (w : World) (hs : s.size ≤ 1000000) (h : c ∈ tl s) :
    Calls Try.prog 31 #[.string s, .int .u8 cn] w fun e w' => (∃ k : Nat, e = .returned (.int .i64 k)) ∧ w' = w := by
  have HN : Hid (∃ k, ∃ h : k < s.size, s[k] = c) := by
    obtain ⟨k, hk, e⟩ := List.mem_iff_getElem.1 h
    exact ⟨k, by rw [tl_len] at hk; exact hk, e⟩
  clear h
  go_enter Try.func31, Try.ntmps31
  go_wp2
  go_loop [5] (fun i => ∃ k : Nat, k ≤ s.size ∧ i = .int .i64 k ∧ Hid (∃ j, ∃ h : j < s.size, s[j] = c ∧ k ≤ j)) (fun i => s.size - (intOf i).toNat)
  case atStart =>
    obtain ⟨k, h, e⟩ := HN.out
    exact ⟨0, Nat.zero_le _, rfl, k, h, e, Nat.zero_le _⟩
  case round =>
    obtain ⟨k, hk, rfl, HJ⟩ := hrel
    by_cases hlt : k < s.size
    · by_cases h1 : s[k] = c
      · have k1 := beq_yes s[k] c cn hcn h1
        clear h1 HJ HN
        go_wp2
        go_ret
        exact ⟨⟨k, rfl⟩, rfl⟩
      · have k1 := beq_no s[k] c cn hcn h1
        have HJ' : Hid (∃ j, ∃ h : j < s.size, s[j] = c ∧ k + 1 ≤ j) := by
          obtain ⟨j, hj, e, h2⟩ := HJ.out
          refine ⟨j, hj, e, ?_⟩
          rcases Nat.lt_or_ge k j with h3 | h3
          · exact h3
          · obtain rfl : j = k := by omega
            exact absurd e h1
        clear h1 HJ HN
        go_wp2
        exact ⟨⟨k + 1, by omega, by go_num, HJ'⟩, by simp [intOf]; omega⟩
    · obtain ⟨j, hj, _, h2⟩ := HJ.out
      omega
end Go.Proofs.Ytkfkeoajakakiaa
