/- LexDeep answers true at every number. -/
import Derived.Test.YtbnpblgapdmkmaaDoorAlive
namespace Go.Proofs.YtbnpblgapdmkmaaDoor
open Go.RowKit Go.Shelf

theorem deep_out (n : Int) (c : Bool) (w : World) (hG : Glob w) (h : n < 1 ∨ 70 < n) : Calls Tryd.prog 6 #[.int .i64 n, .bool c] w fun e w' => e = .returned (.bool true) ∧ Below w.heap.size w w' := by
  have qa := alive_any w hG
  by_cases h1 : n < 1
  · have hd : decide (n < 1) = true := by simpa using h1
    clear hG
    go_enter Tryd.func6, Tryd.ntmps6
    go_wp2_with fail
    refine qa.mono ?_
    rintro e w1 ⟨rfl, hb1⟩
    have HB := hide' hb1
    clear hb1
    go_wp2_with fail
    go_ret
    exact ⟨rfl, HB.out⟩
  · have h2 : 70 < n := by omega
    have hd : decide (n < 1) = false := by simpa using h1
    have hd2 : decide (70 < n) = true := by simpa using h2
    clear hG h
    go_enter Tryd.func6, Tryd.ntmps6
    go_wp2_with fail
    refine qa.mono ?_
    rintro e w1 ⟨rfl, hb1⟩
    have HB := hide' hb1
    clear hb1
    go_wp2_with fail
    go_ret
    exact ⟨rfl, HB.out⟩
/-- what Lex answers of the text that is built -/
theorem deep_lex (N : Nat) (m : Nat) (w : World) (hG : Glob w) (R : Fin) (hN : N ≤ 70) (hm : m ≤ 70) (hR : Runs (dp N (List.replicate m 41)) .bw ⟨0, 0, [], []⟩ R) (hne : R ≠ .none) : Calls Tryd.prog 8 #[.string (mk (dp N (List.replicate m 41)))] w (LexR w R) := by
  have hj : joinedB (dp N (List.replicate m 41)) = dp N (List.replicate m 41) := joined_no _ fun c hc => by
    rcases dp_mem _ _ _ hc with rfl | rfl | h
    · decide
    · decide
    · rw [(List.mem_replicate.1 h).2]; decide
  have hs : (mk (dp N (List.replicate m 41))).size ≤ 65536 := by rw [mk_size, dp_len, List.length_replicate]; omega
  obtain ⟨k, hk⟩ := hR
  cases R with
  | toks tk => exact lex_toks _ w k tk hs hG (by rw [tl_mk, hj]; exact hk)
  | err n => exact lex_err _ w k n hs hG (by rw [tl_mk, hj]; exact hk)
  | none => exact absurd rfl hne
theorem mk_app (a b : Bs) : mk a ++ mk b = mk (a ++ b) := tl_inj _ _ (by rw [tl_mk]; simp [tl, ByteArray.data_append])
theorem dp_close (N i : Nat) : mk (dp N (List.replicate i 41)) ++ ⟨#[41]⟩ = mk (dp N (List.replicate (i + 1) 41)) := by
  have h := mk_app (dp N (List.replicate i 41)) [41]
  have e : dp N (List.replicate i 41) ++ [41] = dp N (List.replicate (i + 1) 41) := by
    rw [← dp_app N (List.replicate i 41), List.append_assoc, ← List.replicate_succ', dp_app]
  rw [e] at h
  exact h
theorem dp_opens (k : Nat) : mk (dp k []) ++ ⟨#[36, 40]⟩ = mk (dp (k + 1) []) := by
  have := mk_app (dp k []) [36, 40]
  rw [dp_snoc] at this
  exact this
set_option maxHeartbeats 1000000 in
theorem deep_f_more (N : Nat) (w : World) (hG : Glob w) (h1 : 60 < N) (h2 : N ≤ 70) : Calls Tryd.prog 6 #[.int .i64 N, .bool false] w fun e w' => e = .returned (.bool true) ∧ Below w.heap.size w w' := by
  have qa := alive_any w hG
  have ql := fun w hG => deep_lex N 0 w hG (.err 42) (by omega) (by omega) (deep_more N _ h1) (by simp)
  have qn := fun n w => num_any n w
  have hd : decide ((N : Int) < 1) = false := by simp; omega
  have hd2 : decide ((70 : Int) < (N : Int)) = false := by simp; omega
  have hd3 : decide ((60 : Int) < (N : Int)) = true := by simp; omega
  have hN : N ≤ 70 := by omega
  have HG := hide' hG
  have HQ := hide' ql
  clear hG ql h1 h2
  go_enter Tryd.func6, Tryd.ntmps6
  go_wp2_with fail
  refine qa.mono ?_
  rintro e w1 ⟨rfl, hb1⟩
  have HB := hide' hb1
  clear hb1 qa
  go_wp2_with fail
  go_loopw [6, 7] (fun s i wr => ∃ k : Nat, k ≤ N ∧ i = .int .i64 k ∧ s = .string (mk (dp k [])) ∧ wr = w1) (fun _ i _ => N - (intOf i).toNat)
  case atStart => exact ⟨0, by omega, rfl, rfl, rfl⟩
  case round =>
    obtain ⟨k, hk, rfl, rfl, rfl⟩ := hrel
    have hsz : (mk (dp k [])).size = 2 * k := by rw [mk_size, dp_len]; rfl
    by_cases hkN : k < N
    · go_wp2_with fail
      exact ⟨⟨k + 1, by omega, by go_num, by rw [dp_opens], trivial⟩, by simp [intOf]; omega⟩
    · have hkN' : k = N := by omega
      subst hkN'
      clear hk hkN
      have hG1 := HG.out.below HB.out
      go_wp2_with fail
      refine (HQ.out _ hG1).mono ?_
      clear HQ
      rintro e w2 ⟨hb2, rfl⟩
      have HB2 := hide' (HB.out.trans (hb2.mono HB.out.size))
      clear hb2
      go_wp2_with (go_at_call 10; refine (qn _ _).mono ?_; rintro e w' ⟨rfl, rfl⟩)
      go_ret
      exact ⟨rfl, HB2.out⟩
set_option maxHeartbeats 1000000 in
theorem deep_f_open (N : Nat) (w : World) (hG : Glob w) (h1 : 1 ≤ N) (h2 : N ≤ 60) : Calls Tryd.prog 6 #[.int .i64 N, .bool false] w fun e w' => e = .returned (.bool true) ∧ Below w.heap.size w w' := by
  have qa := alive_any w hG
  have ql := fun w hG => deep_lex N 0 w hG (.err 30) (by omega) (by omega) (deep_open N h1 h2) (by simp)
  have qn := fun n w => num_any n w
  have hd : decide ((N : Int) < 1) = false := by simp; omega
  have hd2 : decide ((70 : Int) < (N : Int)) = false := by simp; omega
  have hd3 : decide ((60 : Int) < (N : Int)) = false := by simp; omega
  have hN : N ≤ 70 := by omega
  have HG := hide' hG
  have HQ := hide' ql
  clear hG ql h1 h2
  go_enter Tryd.func6, Tryd.ntmps6
  go_wp2_with fail
  refine qa.mono ?_
  rintro e w1 ⟨rfl, hb1⟩
  have HB := hide' hb1
  clear hb1 qa
  go_wp2_with fail
  go_loopw [6, 7] (fun s i wr => ∃ k : Nat, k ≤ N ∧ i = .int .i64 k ∧ s = .string (mk (dp k [])) ∧ wr = w1) (fun _ i _ => N - (intOf i).toNat)
  case atStart => exact ⟨0, by omega, rfl, rfl, rfl⟩
  case round =>
    obtain ⟨k, hk, rfl, rfl, rfl⟩ := hrel
    have hsz : (mk (dp k [])).size = 2 * k := by rw [mk_size, dp_len]; rfl
    by_cases hkN : k < N
    · go_wp2_with fail
      exact ⟨⟨k + 1, by omega, by go_num, by rw [dp_opens], trivial⟩, by simp [intOf]; omega⟩
    · have hkN' : k = N := by omega
      subst hkN'
      clear hk hkN
      have hG1 := HG.out.below HB.out
      go_wp2_with fail
      refine (HQ.out _ hG1).mono ?_
      clear HQ
      rintro e w2 ⟨hb2, rfl⟩
      have HB2 := hide' (HB.out.trans (hb2.mono HB.out.size))
      clear hb2
      go_wp2_with (go_at_call 10; refine (qn _ _).mono ?_; rintro e w' ⟨rfl, rfl⟩)
      go_ret
      exact ⟨rfl, HB2.out⟩
set_option maxHeartbeats 1000000 in
theorem deep_t_more (N : Nat) (w : World) (hG : Glob w) (h1 : 60 < N) (h2 : N ≤ 70) : Calls Tryd.prog 6 #[.int .i64 N, .bool true] w fun e w' => e = .returned (.bool true) ∧ Below w.heap.size w w' := by
  have qa := alive_any w hG
  have ql := fun w hG => deep_lex N N w hG (.err 42) (by omega) (by omega) (deep_more N _ h1) (by simp)
  have qn := fun n w => num_any n w
  have hd : decide ((N : Int) < 1) = false := by simp; omega
  have hd2 : decide ((70 : Int) < (N : Int)) = false := by simp; omega
  have hd3 : decide ((60 : Int) < (N : Int)) = true := by simp; omega
  have hN : N ≤ 70 := by omega
  have HG := hide' hG
  have HQ := hide' ql
  clear hG ql h1 h2
  go_enter Tryd.func6, Tryd.ntmps6
  go_wp2_with fail
  refine qa.mono ?_
  rintro e w1 ⟨rfl, hb1⟩
  have HB := hide' hb1
  clear hb1 qa
  go_wp2_with fail
  go_loopw [6, 7] (fun s i wr => ∃ k : Nat, k ≤ N ∧ i = .int .i64 k ∧ s = .string (mk (dp k [])) ∧ wr = w1) (fun _ i _ => N - (intOf i).toNat)
  case atStart => exact ⟨0, by omega, rfl, rfl, rfl⟩
  case round =>
    obtain ⟨k, hk, rfl, rfl, rfl⟩ := hrel
    have hsz : (mk (dp k [])).size = 2 * k := by rw [mk_size, dp_len]; rfl
    by_cases hkN : k < N
    · go_wp2_with fail
      exact ⟨⟨k + 1, by omega, by go_num, by rw [dp_opens], trivial⟩, by simp [intOf]; omega⟩
    · have hkN' : k = N := by omega
      subst hkN'
      clear hk hkN
      have hG1 := HG.out.below HB.out
      go_wp2_with fail
      go_loopw [6, 8] (fun s i wq => ∃ j : Nat, j ≤ k ∧ i = .int .i64 j ∧ s = .string (mk (dp k (List.replicate j 41))) ∧ wq = wr) (fun _ i _ => k - (intOf i).toNat)
      case atStart => exact ⟨0, by omega, rfl, rfl, rfl⟩
      case round =>
      obtain ⟨j, hj, rfl, rfl, rfl⟩ := hrel
      have hsz2 : (mk (dp k (List.replicate j 41))).size = 2 * k + j := by rw [mk_size, dp_len, List.length_replicate]
      by_cases hjN : j < k
      · go_wp2_with fail
        exact ⟨⟨j + 1, by omega, by go_num, by rw [dp_close], trivial⟩, by simp [intOf]; omega⟩
      have hjN' : j = k := by omega
      subst hjN'
      clear hj hjN hsz
      go_wp2_with fail
      refine (HQ.out _ hG1).mono ?_
      clear HQ
      rintro e w2 ⟨hb2, rfl⟩
      have HB2 := hide' (HB.out.trans (hb2.mono HB.out.size))
      clear hb2
      go_wp2_with (go_at_call 10; refine (qn _ _).mono ?_; rintro e w' ⟨rfl, rfl⟩)
      go_ret
      exact ⟨rfl, HB2.out⟩
set_option maxHeartbeats 1000000 in
theorem deep_t_closed (N : Nat) (w : World) (hG : Glob w) (h1 : 1 ≤ N) (h2 : N ≤ 60) : Calls Tryd.prog 6 #[.int .i64 N, .bool true] w fun e w' => e = .returned (.bool true) ∧ Below w.heap.size w w' := by
  have qa := alive_any w hG
  have ql := fun w hG => deep_lex N N w hG (.toks [(1, dp N (List.replicate N 41)), (4, [])]) (by omega) (by omega) (deep_closed N h1 h2) (by simp)
  have qn := fun n w => num_any n w
  have hd : decide ((N : Int) < 1) = false := by simp; omega
  have hd2 : decide ((70 : Int) < (N : Int)) = false := by simp; omega
  have hd3 : decide ((60 : Int) < (N : Int)) = false := by simp; omega
  have hN : N ≤ 70 := by omega
  have HG := hide' hG
  have HQ := hide' ql
  clear hG ql h1 h2
  go_enter Tryd.func6, Tryd.ntmps6
  go_wp2_with fail
  refine qa.mono ?_
  rintro e w1 ⟨rfl, hb1⟩
  have HB := hide' hb1
  clear hb1 qa
  go_wp2_with fail
  go_loopw [6, 7] (fun s i wr => ∃ k : Nat, k ≤ N ∧ i = .int .i64 k ∧ s = .string (mk (dp k [])) ∧ wr = w1) (fun _ i _ => N - (intOf i).toNat)
  case atStart => exact ⟨0, by omega, rfl, rfl, rfl⟩
  case round =>
    obtain ⟨k, hk, rfl, rfl, rfl⟩ := hrel
    have hsz : (mk (dp k [])).size = 2 * k := by rw [mk_size, dp_len]; rfl
    by_cases hkN : k < N
    · go_wp2_with fail
      exact ⟨⟨k + 1, by omega, by go_num, by rw [dp_opens], trivial⟩, by simp [intOf]; omega⟩
    · have hkN' : k = N := by omega
      subst hkN'
      clear hk hkN
      have hG1 := HG.out.below HB.out
      go_wp2_with fail
      go_loopw [6, 8] (fun s i wq => ∃ j : Nat, j ≤ k ∧ i = .int .i64 j ∧ s = .string (mk (dp k (List.replicate j 41))) ∧ wq = wr) (fun _ i _ => k - (intOf i).toNat)
      case atStart => exact ⟨0, by omega, rfl, rfl, rfl⟩
      case round =>
      obtain ⟨j, hj, rfl, rfl, rfl⟩ := hrel
      have hsz2 : (mk (dp k (List.replicate j 41))).size = 2 * k + j := by rw [mk_size, dp_len, List.length_replicate]
      by_cases hjN : j < k
      · go_wp2_with fail
        exact ⟨⟨j + 1, by omega, by go_num, by rw [dp_close], trivial⟩, by simp [intOf]; omega⟩
      have hjN' : j = k := by omega
      subst hjN'
      clear hj hjN hsz
      go_wp2_with fail
      refine (HQ.out _ hG1).mono ?_
      clear HQ
      rintro e w2 ⟨hb2, tv, rfl, hown, hle⟩
      have HB2 := hide' (HB.out.trans (hb2.mono HB.out.size))
      obtain ⟨g, cap, rfl, hcap, hcm, hgl, hc⟩ := own_cells hown (Nat.succ_pos _)
      dsimp only [List.length_cons, List.length_nil] at hcap ⊢
      have k1 := hc 1 _ rfl
      clear hb2 hown hle hc
      go_wp2_with (go_at_call 10; refine (qn _ _).mono ?_; rintro e w' ⟨rfl, rfl⟩)
      go_ret
      exact ⟨rfl, HB2.out⟩
theorem deep_any (n : Int) (c : Bool) (w : World) (hG : Glob w) : Calls Tryd.prog 6 #[.int .i64 n, .bool c] w fun e w' => e = .returned (.bool true) ∧ Below w.heap.size w w' := by
  by_cases h : n < 1 ∨ 70 < n
  · exact deep_out n c w hG h
  obtain ⟨N, rfl⟩ : ∃ N : Nat, n = N := ⟨n.toNat, by omega⟩
  by_cases h60 : 60 < N
  · cases c with
    | false => exact deep_f_more N w hG h60 (by omega)
    | true => exact deep_t_more N w hG h60 (by omega)
  · cases c with
    | false => exact deep_f_open N w hG (by omega) (by omega)
    | true => exact deep_t_closed N w hG (by omega) (by omega)
end Go.Proofs.YtbnpblgapdmkmaaDoor
