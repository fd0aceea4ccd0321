/- The contract of anvilref1.Valid. -/
import Derived.Test.YtkfkeoajakakiaaValid
namespace Go.Proofs.Ytkfkeoajakakiaa
open Go.RowKit Go.Shelf

theorem nms_mem_len (s : ByteArray) (k : Nat) : ((nms (tl s)).getD k []).length ≤ s.size + 1 := by
  by_cases h : k < (nms (tl s)).length
  · have hm : (nms (tl s)).getD k [] ∈ nms (tl s) := by rw [List.getD_eq_getElem?_getD, List.getElem?_eq_getElem h]; exact List.getElem_mem h
    have hm2 : (nms (tl s)).getD k [] ∈ cut (tl s) := (List.mem_filter.1 hm).1
    have := tw_mem _ _ hm2
    rw [cut_tw, tl_len] at this
    exact this
  · rw [List.getD_eq_getElem?_getD, List.getElem?_eq_none (by omega)]
    exact Nat.zero_le _
theorem okn_long (x : List UInt8) (h : ¬ x.length ≤ 255) : okn x = false := by unfold okn; rw [decide_eq_false h]; rfl
theorem okn_zero (x : List UInt8) (h : 0 ∈ x) : okn x = false := by unfold okn; simp [h]
theorem okn_ten (x : List UInt8) (h : 10 ∈ x) : okn x = false := by unfold okn; simp [h]
theorem okn_ok (x : List UInt8) (h1 : x.length ≤ 255) (h2 : 0 ∉ x) (h3 : 10 ∉ x) : okn x = true := by unfold okn; simp [h1, h2, h3]

theorem rvalid_long (s : ByteArray) (w : World) (h : 1000 < s.size) (hs : s.size ≤ 1000000) :
    Calls Try.prog 11 #[.string s] w fun e w' => e = .returned (.bool (valid (tl s))) ∧ Below w.heap.size w w' := by
  have hv : valid (tl s) = false := by unfold valid; rw [tl_len, decide_eq_false (by omega)]; rfl
  rw [hv]
  have k1 : (1000 : Int) < s.size := by omega
  go_enter Try.func11, Try.ntmps11
  go_wp2
  go_ret
  exact ⟨rfl, Below.refl _ _⟩

set_option maxRecDepth 100000 in
set_option maxHeartbeats 2000000 in
theorem rvalid_short (s : ByteArray) (w : World) (h : s.size ≤ 1000) :
    Calls Try.prog 11 #[.string s] w fun e w' => e = .returned (.bool (valid (tl s))) ∧ Below w.heap.size w w' := by
  have k1 : ¬ (1000 : Int) < s.size := by omega
  have q0 := rclean_any s (by omega)
  by_cases hc : clean (tl s) = tl s
  · have hv : valid (tl s) = (nms (tl s)).all okn := by rw [valid_nms, tl_len, decide_eq_true h, decide_eq_true hc]; rfl
    have HV := hide' hv
    rw [hc, mk_tl] at q0
    clear hv hc
    have HL := hide' (nms_mem_len s)
    have q1 := fun w => rnames_any s (by omega) w
    have hKl := nms_tw s
    go_enter Try.func11, Try.ntmps11
    go_wp2_with fail
    refine (q0 _).mono ?_
    rintro e w0 ⟨rfl, hB0⟩
    go_wp2_with fail
    refine (q1 _).mono ?_
    rintro e w1 ⟨v1, rfl, hrow1, hb1⟩
    have hB1 := hB0.trans (hb1.mono hB0.size)
    clear hB0 hb1 q0 q1
    by_cases hnil : nms (tl s) = []
    · rw [hnil] at hrow1 HV
      have hvv : ∃ a c, v1 = .slice a 0 c := by
        rcases hrow1.2 with ⟨rfl, _⟩ | ⟨g, cap, cur, rfl, _⟩
        · exact ⟨_, _, rfl⟩
        · exact ⟨_, _, rfl⟩
      obtain ⟨a, c, rfl⟩ := hvv
      clear hrow1 hnil HL hKl
      go_wp2
      go_loopw [4] (fun i wr => i = .int .i64 0 ∧ wr = w1) (fun _ _ => 0)
      case atStart => exact ⟨rfl, rfl⟩
      case round =>
        obtain ⟨rfl, rfl⟩ := hrel
        go_wp2
        go_ret
        exact ⟨by rw [HV.out]; rfl, hB1⟩
    · obtain ⟨g, cap, rfl, hc1, hc2, hg, hcell, _⟩ := row_form hrow1 hnil
      clear hrow1 hnil
      generalize nms (tl s) = K at hKl hc1 hcell HV HL
      have HC := hide' hcell
      clear hcell
      have hsz1 := hB1.size
      go_wp2
      go_loopw [4] (fun i wr => ∃ k : Nat, k ≤ K.length ∧ i = .int .i64 k ∧ wr = w1 ∧ Hid ((K.take k).all okn = true)) (fun i _ => K.length - (intOf i).toNat)
      case atStart => exact ⟨0, Nat.zero_le _, rfl, rfl, rfl⟩
      case round =>
        obtain ⟨k, hk, rfl, rfl, HA⟩ := hrel
        by_cases hlt : k < K.length
        · have c1 := HC.out k hlt
          have hxl := HL.out k
          have hno := fun e => hide' (HV.out.trans (all_no K k hlt e))
          have hyes := fun e : okn (K.getD k []) = true => (show Hid ((K.take (k + 1)).all okn = true) by show _ = _; rw [all_take_next K k hlt, HA.out, e]; rfl)
          have HNO := hide' hno
          have HYES := hide' hyes
          clear HA hno hyes
          generalize K.getD k [] = x at c1 hxl HNO HYES
          have hmx := mk_size x
          by_cases h1 : x.length ≤ 255
          · by_cases h2 : 0 ∈ x
            · have q := fun w => rindex_yes 0 0 rfl (mk x) w (by omega) (by rw [tl_mk x]; exact h2)
              have HF := HNO.out (okn_zero x h2)
              have k2 : ¬ (255 : Int) < x.length := by omega
              clear HNO HYES h2 hmx
              go_wp2_with fail
              refine (q _).mono ?_
              rintro e w2 ⟨⟨n, rfl⟩, rfl⟩
              go_wp2
              go_ret
              exact ⟨by rw [HF.out]; rfl, hB1⟩
            · have q := fun w => rindex_no 0 0 rfl (mk x) w (by omega) (by rw [tl_mk x]; exact h2)
              have k2 : ¬ (255 : Int) < x.length := by omega
              by_cases h3 : 10 ∈ x
              · have q2 := fun w => rindex_yes 10 10 rfl (mk x) w (by omega) (by rw [tl_mk x]; exact h3)
                have HF := HNO.out (okn_ten x h3)
                clear HNO HYES h2 h3 hmx
                go_wp2_with fail
                refine (q _).mono ?_
                rintro e w2 ⟨rfl, hw2⟩
                subst hw2
                go_wp2_with fail
                refine (q2 _).mono ?_
                rintro e w3 ⟨⟨n, rfl⟩, hw3⟩
                subst hw3
                go_wp2
                go_ret
                exact ⟨by rw [HF.out]; rfl, hB1⟩
              · have q2 := fun w => rindex_no 10 10 rfl (mk x) w (by omega) (by rw [tl_mk x]; exact h3)
                have HA1 := HYES.out (okn_ok x h1 h2 h3)
                clear HNO HYES h2 h3 hmx
                go_wp2_with fail
                refine (q _).mono ?_
                rintro e w2 ⟨rfl, hw2⟩
                subst hw2
                go_wp2_with fail
                refine (q2 _).mono ?_
                rintro e w3 ⟨rfl, hw3⟩
                subst hw3
                go_wp2
                exact ⟨⟨k + 1, by omega, by go_num, by trivial, HA1⟩, by simp [intOf]; omega⟩
          · have HF := HNO.out (okn_long x h1)
            have k2 : (255 : Int) < x.length := by omega
            clear HNO HYES hmx h1
            go_wp2
            go_ret
            exact ⟨by rw [HF.out]; rfl, hB1⟩
        · have hke : K.take k = K := List.take_of_length_le (by omega)
          have HF : Hid (valid (tl s) = true) := by show _ = _; rw [HV.out, ← hke]; exact HA.out
          clear hke HA
          go_wp2
          go_ret
          exact ⟨by rw [HF.out]; rfl, hB1⟩
  · have hv : valid (tl s) = false := by unfold valid; rw [decide_eq_false hc, Bool.and_false, Bool.false_and]
    rw [hv]
    have hne : mk (clean (tl s)) ≠ s := fun e => hc (by rw [← tl_mk (clean (tl s)), e])
    have hn2 := list_ne _ _ hne
    generalize mk (clean (tl s)) = c at q0 hn2
    clear hv hne hc
    go_enter Try.func11, Try.ntmps11
    go_wp2_with fail
    refine (q0 _).mono ?_
    rintro e w0 ⟨rfl, hB0⟩
    go_wp2
    go_ret
    exact ⟨rfl, hB0⟩

theorem rvalid_any (s : ByteArray) (w : World) (hs : s.size ≤ 1000000) :
    Calls Try.prog 11 #[.string s] w fun e w' => e = .returned (.bool (valid (tl s))) ∧ Below w.heap.size w w' := by
  by_cases h : s.size ≤ 1000
  · exact rvalid_short s w h
  · exact rvalid_long s w (by omega) hs
end Go.Proofs.Ytkfkeoajakakiaa
