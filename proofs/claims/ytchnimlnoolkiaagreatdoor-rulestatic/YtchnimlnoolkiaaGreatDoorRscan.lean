/- The contracts of anvilref1.Index and of anvilref10.Scan. -/
import Derived.Test.YtchnimlnoolkiaaGreatDoorScan
namespace Go.Proofs.YtchnimlnoolkiaaGreatDoor
open Go.RowKit

set_option maxHeartbeats 1000000 in
theorem rindex_b (c : UInt8) (s : ByteArray) (w : World) (b : Bool) (hb : Hid ((tl s).contains c = b)) (hs : s.size ≤ 1000000) :
    Calls Tryz.prog 35 #[.string s, .int .u8 c.toNat] w fun e w' => (∃ k : Int, e = .returned (.int .i64 k) ∧ ((decide (k < 0)) = !b)) ∧ w' = w := by
  go_enter Tryz.func35, Tryz.ntmps35
  go_wp2
  go_loop [5] (fun i => ∃ k : Nat, k ≤ s.size ∧ i = .int .i64 k ∧ Hid (∀ j, j < k → (tl s).getD j 0 ≠ c)) (fun i => s.size - (intOf i).toNat)
  case atStart => exact ⟨0, Nat.zero_le _, rfl, fun j hj => absurd hj (Nat.not_lt_zero j)⟩
  case round =>
    obtain ⟨k, hk, rfl, HK⟩ := hrel
    by_cases hlt : k < s.size
    · have hg := getD_at s k hlt
      by_cases h1 : s[k] = c
      · have k1 := beq_yes _ _ _ rfl h1
        have HE : Hid ((tl s).contains c = true) := by
          show _ = _
          rw [List.contains_iff_mem]
          have : (tl s)[k]? = some c := by
            have hl : k < (tl s).length := by rw [tl_len]; exact hlt
            rw [List.getD_eq_getElem?_getD, List.getElem?_eq_getElem hl] at hg
            rw [List.getElem?_eq_getElem hl, ← h1, ← hg]
            rfl
          exact List.mem_of_getElem? this
        clear HK h1 hg
        go_wp2
        go_ret
        exact ⟨⟨k, rfl, by rw [← hb.out, HE.out]; simp⟩, rfl⟩
      · have k1 := beq_no _ _ _ rfl h1
        have HE : Hid (∀ j, j < k + 1 → (tl s).getD j 0 ≠ c) := fun j hj => by
          by_cases hjk : j = k
          · subst hjk; rw [hg]; exact h1
          · exact HK.out j (by omega)
        clear HK h1 hg
        go_wp2
        exact ⟨⟨k + 1, by omega, by go_num, HE⟩, by simp [intOf]; omega⟩
    · have HE : Hid ((tl s).contains c = false) := by
        show _ = _
        rw [Bool.eq_false_iff]
        intro h
        rw [List.contains_iff_mem] at h
        obtain ⟨j, hj, he⟩ := List.mem_iff_getElem.1 h
        refine HK.out j (by rw [tl_len] at hj; omega) ?_
        rw [List.getD_eq_getElem?_getD, List.getElem?_eq_getElem hj]
        exact he
      clear HK
      go_wp2
      go_ret
      exact ⟨⟨-1, rfl, by rw [← hb.out, HE.out]; rfl⟩, rfl⟩

set_option maxRecDepth 100000 in
set_option maxHeartbeats 4000000 in
theorem rscan_any (s t : ByteArray) (hs : s.size ≤ 100000) (ht : t.size ≤ 100000) (w : World) :
    Calls Tryz.prog 25 #[.string s, .string t] w fun e w' => e = .returned (.int .i64 (clI (scn (tl t) (tl s) (s.size + 1) 0))) ∧ w' = w := by
  obtain ⟨R, hR⟩ : ∃ R, R = scn (tl t) (tl s) (s.size + 1) 0 := ⟨_, rfl⟩
  have HR := hide' hR
  rw [← hR]
  clear hR
  go_enter Tryz.func25, Tryz.ntmps25
  go_wp2
  go_loop [5] (fun i => ∃ k f : Nat, k ≤ s.size ∧ s.size + 1 ≤ k + f ∧ i = .int .i64 k ∧ Hid (scn (tl t) (tl s) f k = R)) (fun i => s.size - (intOf i).toNat)
  case atStart => exact ⟨0, s.size + 1, Nat.zero_le _, by omega, rfl, HR.out.symm⟩
  case round =>
    clear HR
    obtain ⟨k, f, hk, hf, rfl, HI⟩ := hrel
    by_cases hlt : k < s.size
    · obtain ⟨f, rfl⟩ : ∃ f', f = f' + 1 := ⟨f - 1, by omega⟩
      have hga := getD_at s k hlt
      have hl := tl_len s
      have hbg := bg_lt (tl s) k (lt_tl hlt)
      rw [hl] at hbg
      by_cases h1 : s[k] = 36
      · have hst : ¬ stp (tl t) ((tl s).getD k 0) = true := by rw [hga, h1]; unfold stp; simp
        have HI' : Hid (scn (tl t) (tl s) f (bg (tl s) k).2 = R) := by
          show _ = _
          rw [← HI.out, scn_no _ _ _ _ (lt_tl hlt) (fun h => hst h.2)]
        clear HI hst
        have d1 : ((s[k].toNat : Int) == 36) = true := beq_yes _ 36 36 rfl h1
        by_cases h2 : k + 1 < s.size
        · have hgb := getD_at s (k + 1) h2
          have d2 : decide ((k : Int) + 1 < (s.size : Int)) = true := decide_eq_true (by omega)
          by_cases h3 : s[k + 1] = 40 ∨ s[k + 1] = 123
          · have h36 : ¬ s[k + 1] = 36 := by rcases h3 with h | h <;> rw [h] <;> decide
            have kC := fun w => closing_any s hs k h2 s[k + 1] rfl h3 w
            have hbr : bg (tl s) k = brk (tl s) s[k + 1] (k + 1) := by
              unfold bg
              rw [hga, hgb, hl, if_pos ⟨h1, h2⟩, if_neg h36, if_pos h3.symm]
            cases hcl : cls s[k + 1] (shut s[k + 1]) (k + 2) 0 ((tl s).drop (k + 2)) with
            | none =>
              rw [hcl] at kC
              have HR' : Hid (R = none) := by
                show _ = _
                rw [← HI'.out, hbr]
                unfold brk
                rw [hcl]
                exact scn_past _ _ _ _ (Nat.le_refl _)
              simp only [clI] at kC
              rcases h3 with h3 | h3
              · have e1 : ((s[k + 1].toNat : Int) != 40) = false := bne_no _ 40 40 rfl h3
                clear h1 h3 h36 hga hgb hl hcl hbr HI' hbg
                go_wp2_with (go_at_call 48; refine (kC _).mono ?_; rintro e w1 ⟨rfl, rfl⟩)
                go_ret
                rw [HR'.out]
                exact ⟨rfl, rfl⟩
              · have e1 : ((s[k + 1].toNat : Int) != 40) = true := bne_yes _ 40 40 rfl (by rw [h3]; decide)
                have e2 : ((s[k + 1].toNat : Int) != 123) = false := bne_no _ 123 123 rfl h3
                clear h1 h3 h36 hga hgb hl hcl hbr HI' hbg
                go_wp2_with (go_at_call 48; refine (kC _).mono ?_; rintro e w1 ⟨rfl, rfl⟩)
                go_ret
                rw [HR'.out]
                exact ⟨rfl, rfl⟩
            | some i =>
              rw [hcl] at kC
              have hb : bg (tl s) k = (2, i + 1) := by
                rw [hbr]
                unfold brk
                rw [hcl]
              rw [hb] at HI' hbg
              have hi : ¬ (i : Int) < 0 := by omega
              simp only [clI] at kC
              rcases h3 with h3 | h3
              · have e1 : ((s[k + 1].toNat : Int) != 40) = false := bne_no _ 40 40 rfl h3
                clear h1 h3 h36 hga hgb hl hcl hbr hb
                go_wp2_with (go_at_call 48; refine (kC _).mono ?_; rintro e w1 ⟨rfl, rfl⟩)
                exact ⟨⟨i + 1, f, by omega, by omega, by go_num, HI'⟩, by simp [intOf]; omega⟩
              · have e1 : ((s[k + 1].toNat : Int) != 40) = true := bne_yes _ 40 40 rfl (by rw [h3]; decide)
                have e2 : ((s[k + 1].toNat : Int) != 123) = false := bne_no _ 123 123 rfl h3
                clear h1 h3 h36 hga hgb hl hcl hbr hb
                go_wp2_with (go_at_call 48; refine (kC _).mono ?_; rintro e w1 ⟨rfl, rfl⟩)
                exact ⟨⟨i + 1, f, by omega, by omega, by go_num, HI'⟩, by simp [intOf]; omega⟩
          · have hb : (bg (tl s) k).2 = k + 2 := by
              unfold bg
              rw [hga, hgb, hl, if_pos ⟨h1, h2⟩]
              split
              · rfl
              · rw [if_neg (fun h => h3 h.symm)]
            rw [hb] at HI' hbg
            have e1 : ((s[k + 1].toNat : Int) != 40) = true := bne_yes _ 40 40 rfl (fun h => h3 (.inl h))
            have e2 : ((s[k + 1].toNat : Int) != 123) = true := bne_yes _ 123 123 rfl (fun h => h3 (.inr h))
            clear h1 h3 hga hgb hl hb
            go_wp2
            exact ⟨⟨k + 2, f, by omega, by omega, by go_num, HI'⟩, by simp [intOf]; omega⟩
        · have d2 : decide ((k : Int) + 1 < (s.size : Int)) = false := decide_eq_false (by omega)
          have d3 : ((s[k].toNat : Int) != 36) = false := bne_no _ 36 36 rfl h1
          have hb : (bg (tl s) k).2 = k + 1 := by
            unfold bg
            rw [hl, if_neg (fun h => h2 h.2)]
          rw [hb] at HI' hbg
          clear h1 hga hl hb
          go_wp2
          exact ⟨⟨k + 1, f, by omega, by omega, by go_num, HI'⟩, by simp [intOf]; omega⟩
      · have d1 : ((s[k].toNat : Int) == 36) = false := beq_no _ 36 36 rfl h1
        have d3 : ((s[k].toNat : Int) != 36) = true := bne_yes _ 36 36 rfl h1
        have hb : bg (tl s) k = (0, k + 1) := by
          unfold bg
          rw [hga, if_neg (fun h => h1 h.1)]
        have hst : stp (tl t) ((tl s).getD k 0) = (tl t).contains s[k] := by rw [hga]; unfold stp; simp [h1]
        cases hc : (tl t).contains s[k] with
        | true =>
          have kI := fun w => rindex_b s[k] t w true hc (by omega)
          have HR' : Hid (R = some k) := by
            show _ = _
            rw [← HI.out, scn_yes _ _ _ _ (lt_tl hlt) (by rw [hb]) (by rw [hst]; exact hc)]
          clear h1 hga hl hb hst hc HI hbg
          go_wp2_with (go_at_call 35; refine (kI _).mono ?_; rintro e w1 ⟨⟨j, rfl, hj⟩, rfl⟩; have hj' : 0 ≤ j := by simpa using hj)
          go_ret
          rw [HR'.out]
          exact ⟨rfl, rfl⟩
        | false =>
          have kI := fun w => rindex_b s[k] t w false hc (by omega)
          have HI' : Hid (scn (tl t) (tl s) f (k + 1) = R) := by
            show _ = _
            rw [← HI.out, scn_no _ _ _ _ (lt_tl hlt) (fun h => by rw [hst, hc] at h; cases h.2), hb]
          clear h1 hga hl hb hst hc HI hbg
          go_wp2_with (go_at_call 35; refine (kI _).mono ?_; rintro e w1 ⟨⟨j, rfl, hj⟩, rfl⟩; have hj' : ¬ 0 ≤ j := by simpa using hj)
          exact ⟨⟨k + 1, f, by omega, by omega, by go_num, HI'⟩, by simp [intOf]; omega⟩
    · have HR' : Hid (R = none) := by
        show _ = _
        rw [← HI.out, scn_past _ _ _ _ (by rw [tl_len]; omega)]
      clear HI
      go_wp2
      go_ret
      rw [HR'.out]
      exact ⟨rfl, rfl⟩
end Go.Proofs.YtchnimlnoolkiaaGreatDoor
