/- GramDeep answers true at every number. -/
import Derived.Test.YtcemlhfodpelaaaGreatDoorGal
import Derived.Test.YtcemlhfodpelaaaGreatDoorGdr
import Derived.Test.YtcemlhfodpelaaaGreatDoorGdg
namespace Go.Proofs.YtcemlhfodpelaaaGreatDoor
open Go.RowKit Go.Shelf

theorem gdeep_out (n : Int) (c : Bool) (w : World) (hG : GloB w) (hE : EtW w) (h : n < 1 ∨ 70 < n) : Calls Tryz.prog 6 #[.int .i64 n, .bool c] w fun e w' => e = .returned (.bool true) ∧ Below w.heap.size w w' := by
  have qa := alive_any w hG hE
  by_cases h1 : n < 1
  · have hd : decide (n < 1) = true := by simpa using h1
    clear hG hE
    go_enter Tryz.func6, Tryz.ntmps6
    go_wp2_with fail
    refine qa.mono ?_
    rintro e w1 ⟨rfl, hb1⟩
    have HB := hide' hb1
    clear hb1
    go_wp2_with fail
    go_ret
    exact ⟨rfl, HB.out⟩
  · have h2 : 70 < n := by omega
    have hd : decide (n < 1) = false := by simpa using h1
    have hd2 : decide (70 < n) = true := by simpa using h2
    clear hG hE h
    go_enter Tryz.func6, Tryz.ntmps6
    go_wp2_with fail
    refine qa.mono ?_
    rintro e w1 ⟨rfl, hb1⟩
    have HB := hide' hb1
    clear hb1
    go_wp2_with fail
    go_ret
    exact ⟨rfl, HB.out⟩
theorem rdS_len : ∀ k, (rdS k).length = 4 * k + 1
  | 0 => rfl
  | k + 1 => by simp only [rdS, List.length_cons, List.length_append, rdS_len k, List.length_nil]; omega
theorem grS_len : ∀ k, (grS k).length = 5 * k + 1
  | 0 => rfl
  | k + 1 => by simp only [grS, List.length_cons, List.length_append, grS_len k, List.length_nil]; omega
theorem rdS_step (k : Nat) : (⟨#[40, 32]⟩ : ByteArray) ++ mk (rdS k) ++ ⟨#[32, 41]⟩ = mk (rdS (k + 1)) := tl_inj _ _ (by rw [tl_mk]; simp [tl, ByteArray.data_append, rdS])
theorem grS_step (k : Nat) : (⟨#[123, 32]⟩ : ByteArray) ++ mk (grS k) ++ ⟨#[59, 32, 125]⟩ = mk (grS (k + 1)) := tl_inj _ _ (by rw [tl_mk]; simp [tl, ByteArray.data_append, grS])
set_option maxHeartbeats 2000000 in
theorem gdeep_rd_more (N : Nat) (w : World) (hG : GloB w) (hE : EtW w) (h1 : 1 ≤ N) (h2 : N ≤ 70) (h3 : 60 < N) : Calls Tryz.prog 6 #[.int .i64 N, .bool true] w fun e w' => e = .returned (.bool true) ∧ Below w.heap.size w w' := by
  have qa := alive_any w hG hE
  have hall := rd_all h2
  have qp := fun w hG hE => parse_all hall w hG hE
  have hsc := hall.sc
  rw [if_pos h3] at hsc
  have hsc2 : scriptP 1000 (rdT N [(4, [])]) = .err 42 := by
    rcases hsc with ⟨h, _⟩ | ⟨_, h⟩
    · cases h
    · exact h
  rw [hsc2] at qp
  clear hsc2
  have qn := fun n w => num_any n w
  have HG := hide' (And.intro hG hE)
  have g1 : ¬ (N : Int) < 1 := by omega
  have g2 : ¬ (70 : Int) < (N : Int) := by omega
  clear hG hE hall hsc
  go_enter Tryz.func6, Tryz.ntmps6
  go_wp2_with fail
  refine qa.mono ?_
  rintro e w1 ⟨rfl, hb1⟩
  clear qa
  have HB := hide' hb1
  clear hb1
  dsimp only
  go_wp2_with fail
  go_loopw [6, 7] (fun s i wr => ∃ k : Nat, k ≤ N ∧ i = .int .i64 k ∧ s = .string (mk (rdS k)) ∧ wr = w1) (fun _ i _ => N - (intOf i).toNat)
  case atStart => exact ⟨0, Nat.zero_le _, rfl, rfl, rfl⟩
  case round =>
    obtain ⟨k, hk, rfl, rfl, rfl⟩ := hrel
    by_cases hkl : k < N
    · have k1 : (k : Int) < N := by omega
      have hl := rdS_len k
      have hz : (mk (rdS k)).size = (rdS k).length := mk_size _
      have hl2 : (rdS k).length ≤ 1000 := by omega
      have hst := rdS_step k
      have HST := hide' hst
      clear hst hl
      generalize mk (rdS k) = XS at *
      generalize (rdS k).length = xl at *
      go_wp2
      rw [HST.out]
      exact ⟨⟨k + 1, by omega, by simp, rfl, trivial⟩, by simp [intOf]; omega⟩
    · obtain rfl : k = N := by omega
      have k1 : ¬ (k : Int) < (k : Int) := by omega
      have hb1 := HB.out
      have q := qp wr (HG.out.1.below hb1) (HG.out.2.below hb1)
      clear qp hb1
      go_wp2_with fail
      refine q.mono ?_
      rintro e w2 ⟨hb2, rfl⟩
      have HB2 := hide' (HB.out.trans ((hb2.trans ((Below.refl _ _).alloc hb2.size (.cells zeroC 28))).mono HB.out.size))
      clear q hb2
      dsimp only
      have g3 : (60 : Int) < (k : Int) := by omega
      go_wp2_with (go_at_call 11; refine (qn _ _).mono ?_; rintro e w' ⟨rfl, rfl⟩)
      go_ret
      exact ⟨rfl, HB2.out⟩
set_option maxHeartbeats 2000000 in
theorem gdeep_rd_less (N : Nat) (w : World) (hG : GloB w) (hE : EtW w) (h1 : 1 ≤ N) (h2 : N ≤ 70) (h3 : ¬ 60 < N) : Calls Tryz.prog 6 #[.int .i64 N, .bool true] w fun e w' => e = .returned (.bool true) ∧ Below w.heap.size w w' := by
  have qa := alive_any w hG hE
  have hall := rd_all h2
  have qp := fun w hG hE => parse_all hall w hG hE
  have hsc := hall.sc
  rw [if_neg h3] at hsc
  obtain ⟨l, hl⟩ : ∃ l, scriptP 1000 (rdT N [(4, [])]) = .ok l := by
    rcases hsc with ⟨_, h⟩ | ⟨h, _⟩
    · exact h
    · exact absurd rfl h
  rw [hl] at qp
  clear hl
  have qn := fun n w => num_any n w
  have HG := hide' (And.intro hG hE)
  have g1 : ¬ (N : Int) < 1 := by omega
  have g2 : ¬ (70 : Int) < (N : Int) := by omega
  clear hG hE hall hsc
  go_enter Tryz.func6, Tryz.ntmps6
  go_wp2_with fail
  refine qa.mono ?_
  rintro e w1 ⟨rfl, hb1⟩
  clear qa
  have HB := hide' hb1
  clear hb1
  dsimp only
  go_wp2_with fail
  go_loopw [6, 7] (fun s i wr => ∃ k : Nat, k ≤ N ∧ i = .int .i64 k ∧ s = .string (mk (rdS k)) ∧ wr = w1) (fun _ i _ => N - (intOf i).toNat)
  case atStart => exact ⟨0, Nat.zero_le _, rfl, rfl, rfl⟩
  case round =>
    obtain ⟨k, hk, rfl, rfl, rfl⟩ := hrel
    by_cases hkl : k < N
    · have k1 : (k : Int) < N := by omega
      have hl := rdS_len k
      have hz : (mk (rdS k)).size = (rdS k).length := mk_size _
      have hl2 : (rdS k).length ≤ 1000 := by omega
      have hst := rdS_step k
      have HST := hide' hst
      clear hst hl
      generalize mk (rdS k) = XS at *
      generalize (rdS k).length = xl at *
      go_wp2
      rw [HST.out]
      exact ⟨⟨k + 1, by omega, by simp, rfl, trivial⟩, by simp [intOf]; omega⟩
    · obtain rfl : k = N := by omega
      have k1 : ¬ (k : Int) < (k : Int) := by omega
      have hb1 := HB.out
      have q := qp wr (HG.out.1.below hb1) (HG.out.2.below hb1)
      clear qp hb1
      go_wp2_with fail
      refine q.mono ?_
      rintro e w2 ⟨hb2, v, rfl, kv, kc, rfl, hK⟩
      obtain ⟨ka, kcap, rfl⟩ := hK.row.form
      have HB2 := hide' (HB.out.trans ((hb2.trans ((Below.refl _ _).alloc hb2.size (.cells #[.int .i64 5, .bool false, .slice none 0 0, .slice none 0 0, .slice none 0 0, .slice ka l.length kcap, .slice none 0 0] 28))).mono HB.out.size))
      clear q hb2 hK
      dsimp only
      have g3 : ¬ (60 : Int) < (k : Int) := by omega
      go_wp2_with (go_at_call 11; refine (qn _ _).mono ?_; rintro e w' ⟨rfl, rfl⟩)
      go_ret
      exact ⟨rfl, HB2.out⟩
set_option maxHeartbeats 2000000 in
theorem gdeep_gr_more (N : Nat) (w : World) (hG : GloB w) (hE : EtW w) (h1 : 1 ≤ N) (h2 : N ≤ 70) (h3 : 60 < N) : Calls Tryz.prog 6 #[.int .i64 N, .bool false] w fun e w' => e = .returned (.bool true) ∧ Below w.heap.size w w' := by
  have qa := alive_any w hG hE
  have hall := gr_all h2
  have qp := fun w hG hE => parse_all hall w hG hE
  have hsc := hall.sc
  rw [if_pos h3] at hsc
  have hsc2 : scriptP 1000 (grT N [(4, [])]) = .err 42 := by
    rcases hsc with ⟨h, _⟩ | ⟨_, h⟩
    · cases h
    · exact h
  rw [hsc2] at qp
  clear hsc2
  have qn := fun n w => num_any n w
  have HG := hide' (And.intro hG hE)
  have g1 : ¬ (N : Int) < 1 := by omega
  have g2 : ¬ (70 : Int) < (N : Int) := by omega
  clear hG hE hall hsc
  go_enter Tryz.func6, Tryz.ntmps6
  go_wp2_with fail
  refine qa.mono ?_
  rintro e w1 ⟨rfl, hb1⟩
  clear qa
  have HB := hide' hb1
  clear hb1
  dsimp only
  go_wp2_with fail
  go_loopw [6, 7] (fun s i wr => ∃ k : Nat, k ≤ N ∧ i = .int .i64 k ∧ s = .string (mk (grS k)) ∧ wr = w1) (fun _ i _ => N - (intOf i).toNat)
  case atStart => exact ⟨0, Nat.zero_le _, rfl, rfl, rfl⟩
  case round =>
    obtain ⟨k, hk, rfl, rfl, rfl⟩ := hrel
    by_cases hkl : k < N
    · have k1 : (k : Int) < N := by omega
      have hl := grS_len k
      have hz : (mk (grS k)).size = (grS k).length := mk_size _
      have hl2 : (grS k).length ≤ 1000 := by omega
      have hst := grS_step k
      have HST := hide' hst
      clear hst hl
      generalize mk (grS k) = XS at *
      generalize (grS k).length = xl at *
      go_wp2
      rw [HST.out]
      exact ⟨⟨k + 1, by omega, by simp, rfl, trivial⟩, by simp [intOf]; omega⟩
    · obtain rfl : k = N := by omega
      have k1 : ¬ (k : Int) < (k : Int) := by omega
      have hb1 := HB.out
      have q := qp wr (HG.out.1.below hb1) (HG.out.2.below hb1)
      clear qp hb1
      go_wp2_with fail
      refine q.mono ?_
      rintro e w2 ⟨hb2, rfl⟩
      have HB2 := hide' (HB.out.trans ((hb2.trans ((Below.refl _ _).alloc hb2.size (.cells zeroC 28))).mono HB.out.size))
      clear q hb2
      dsimp only
      have g3 : (60 : Int) < (k : Int) := by omega
      go_wp2_with (go_at_call 11; refine (qn _ _).mono ?_; rintro e w' ⟨rfl, rfl⟩)
      go_ret
      exact ⟨rfl, HB2.out⟩
set_option maxHeartbeats 2000000 in
theorem gdeep_gr_less (N : Nat) (w : World) (hG : GloB w) (hE : EtW w) (h1 : 1 ≤ N) (h2 : N ≤ 70) (h3 : ¬ 60 < N) : Calls Tryz.prog 6 #[.int .i64 N, .bool false] w fun e w' => e = .returned (.bool true) ∧ Below w.heap.size w w' := by
  have qa := alive_any w hG hE
  have hall := gr_all h2
  have qp := fun w hG hE => parse_all hall w hG hE
  have hsc := hall.sc
  rw [if_neg h3] at hsc
  obtain ⟨l, hl⟩ : ∃ l, scriptP 1000 (grT N [(4, [])]) = .ok l := by
    rcases hsc with ⟨_, h⟩ | ⟨h, _⟩
    · exact h
    · exact absurd rfl h
  rw [hl] at qp
  clear hl
  have qn := fun n w => num_any n w
  have HG := hide' (And.intro hG hE)
  have g1 : ¬ (N : Int) < 1 := by omega
  have g2 : ¬ (70 : Int) < (N : Int) := by omega
  clear hG hE hall hsc
  go_enter Tryz.func6, Tryz.ntmps6
  go_wp2_with fail
  refine qa.mono ?_
  rintro e w1 ⟨rfl, hb1⟩
  clear qa
  have HB := hide' hb1
  clear hb1
  dsimp only
  go_wp2_with fail
  go_loopw [6, 7] (fun s i wr => ∃ k : Nat, k ≤ N ∧ i = .int .i64 k ∧ s = .string (mk (grS k)) ∧ wr = w1) (fun _ i _ => N - (intOf i).toNat)
  case atStart => exact ⟨0, Nat.zero_le _, rfl, rfl, rfl⟩
  case round =>
    obtain ⟨k, hk, rfl, rfl, rfl⟩ := hrel
    by_cases hkl : k < N
    · have k1 : (k : Int) < N := by omega
      have hl := grS_len k
      have hz : (mk (grS k)).size = (grS k).length := mk_size _
      have hl2 : (grS k).length ≤ 1000 := by omega
      have hst := grS_step k
      have HST := hide' hst
      clear hst hl
      generalize mk (grS k) = XS at *
      generalize (grS k).length = xl at *
      go_wp2
      rw [HST.out]
      exact ⟨⟨k + 1, by omega, by simp, rfl, trivial⟩, by simp [intOf]; omega⟩
    · obtain rfl : k = N := by omega
      have k1 : ¬ (k : Int) < (k : Int) := by omega
      have hb1 := HB.out
      have q := qp wr (HG.out.1.below hb1) (HG.out.2.below hb1)
      clear qp hb1
      go_wp2_with fail
      refine q.mono ?_
      rintro e w2 ⟨hb2, v, rfl, kv, kc, rfl, hK⟩
      obtain ⟨ka, kcap, rfl⟩ := hK.row.form
      have HB2 := hide' (HB.out.trans ((hb2.trans ((Below.refl _ _).alloc hb2.size (.cells #[.int .i64 5, .bool false, .slice none 0 0, .slice none 0 0, .slice none 0 0, .slice ka l.length kcap, .slice none 0 0] 28))).mono HB.out.size))
      clear q hb2 hK
      dsimp only
      have g3 : ¬ (60 : Int) < (k : Int) := by omega
      go_wp2_with (go_at_call 11; refine (qn _ _).mono ?_; rintro e w' ⟨rfl, rfl⟩)
      go_ret
      exact ⟨rfl, HB2.out⟩
/-- the law GramDeep answers true -/
theorem gdeep_any (n : Int) (c : Bool) (w : World) (hG : GloB w) (hE : EtW w) : Calls Tryz.prog 6 #[.int .i64 n, .bool c] w fun e w' => e = .returned (.bool true) ∧ Below w.heap.size w w' := by
  by_cases h : n < 1 ∨ 70 < n
  · exact gdeep_out n c w hG hE h
  · obtain ⟨N, rfl⟩ : ∃ N : Nat, n = N := ⟨n.toNat, by omega⟩
    cases c with
    | true =>
      by_cases h3 : 60 < N
      · exact gdeep_rd_more N w hG hE (by omega) (by omega) h3
      · exact gdeep_rd_less N w hG hE (by omega) (by omega) h3
    | false =>
      by_cases h3 : 60 < N
      · exact gdeep_gr_more N w hG hE (by omega) (by omega) h3
      · exact gdeep_gr_less N w hG hE (by omega) (by omega) h3
end Go.Proofs.YtcemlhfodpelaaaGreatDoor
