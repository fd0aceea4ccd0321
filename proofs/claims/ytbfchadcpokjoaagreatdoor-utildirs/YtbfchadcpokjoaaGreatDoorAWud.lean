/- The law UtilDirs, walked. -/
import Derived.Test.YtbfchadcpokjoaaGreatDoorAZs
namespace Go.Proofs.YtbfchadcpokjoaaGreatDoor
open Go.RowKit Go.Maps

set_option maxRecDepth 100000 in
set_option maxHeartbeats 8000000 in
theorem udirs_out (B : Nat) (E : Addr) (n t : Int) (w : World) (hG : Glo B w E) (hB : B ≤ w.heap.size) (h : n < 1 ∨ 20 < n ∨ t < 0 ∨ n < t) :
    Calls Tryz.prog 6 #[.int .i64 n, .int .i64 t] w fun r w' => r = .returned (.bool true) ∧ Below w.heap.size w w' := by
  have qa := alive_any B E w hG hB
  have HA := hide' qa
  clear qa hG
  by_cases h1 : n < 1
  · clear h
    go_enter Tryz.func6, Tryz.ntmps6
    go_wp2_with fail
    refine HA.out.mono ?_
    rintro r w1 ⟨rfl, hw1⟩
    go_wp2
    go_ret
    exact ⟨rfl, hw1⟩
  by_cases h2 : 20 < n
  · clear h
    go_enter Tryz.func6, Tryz.ntmps6
    go_wp2_with fail
    refine HA.out.mono ?_
    rintro r w1 ⟨rfl, hw1⟩
    go_wp2
    go_ret
    exact ⟨rfl, hw1⟩
  by_cases h3 : t < 0
  · clear h
    go_enter Tryz.func6, Tryz.ntmps6
    go_wp2_with fail
    refine HA.out.mono ?_
    rintro r w1 ⟨rfl, hw1⟩
    go_wp2
    go_ret
    exact ⟨rfl, hw1⟩
  · have h4 : n < t := by omega
    clear h
    go_enter Tryz.func6, Tryz.ntmps6
    go_wp2_with fail
    refine HA.out.mono ?_
    rintro r w1 ⟨rfl, hw1⟩
    go_wp2
    go_ret
    exact ⟨rfl, hw1⟩

set_option maxRecDepth 100000 in
set_option maxHeartbeats 8000000 in
theorem udirs_in (B : Nat) (E : Addr) (n t : Nat) (w : World) (hG : Glo B w E) (hB : B ≤ w.heap.size) (h1 : 1 ≤ n) (h2 : n ≤ 20) (h3 : t ≤ n) :
    Calls Tryz.prog 6 #[.int .i64 n, .int .i64 t] w fun r w' => r = .returned (.bool true) ∧ Below w.heap.size w w' := by
  have qa := alive_any B E w hG hB
  have qn := fun W (hb : Below w.heap.size w W) => call_new (W := W) B hG hB hb
  have HA := hide' qa
  have HN := hide' qn
  clear qa qn hG
  have k1 : ¬ (n : Int) < 1 := by omega
  have k2 : ¬ (20 : Int) < n := by omega
  have k3 : ¬ (t : Int) < 0 := by omega
  have k4 : ¬ (n : Int) < t := by omega
  go_enter Tryz.func6, Tryz.ntmps6
  go_wp2_with fail
  refine HA.out.mono ?_
  rintro r w1 ⟨rfl, hw1⟩
  have q1 := HN.out w1 hw1
  have HQ1 := hide' q1
  clear HA HN q1
  go_wp2_with fail
  refine HQ1.out.mono ?_
  rintro r w2 ⟨G, S0, rfl, hd0⟩
  have hnil : ∀ w : World, (binOp .eql 36 (.pointer (some ⟨G, 0, none⟩)) (.pointer none)).run Tryz.prog w = .ok (.bool false) w := fun w => by kernel_rfl
  have HD0 := hide' hd0
  clear HQ1 hd0 hw1
  go_wp2_with (go_at_call 12; refine (lnum_any _ _).mono ?_; rintro r w0 ⟨rfl, rfl⟩)
  go_loopw [8, 9, 10] (fun p i _ wr => ∃ (k : Nat) (P : ByteArray) (S : Nat → Prop), k ≤ n ∧ i = .int .i64 k ∧ p = .string P ∧ Hid (P = mk (dp k)) ∧ Hid (DS w E G S (ch (min k t)) ((min k t : Nat) : Int) wr)) (fun _ i _ _ => n - (intOf i).toNat)
  case atStart => exact ⟨0, _, S0, Nat.zero_le _, rfl, rfl, hide' rfl, hide' (by rw [Nat.zero_min]; exact HD0.out)⟩
  case round =>
    obtain ⟨k, P, S, hk, rfl, rfl, HP, HD⟩ := hrel
    clear HD0
    by_cases hkn : k < n
    · have k5 : (k : Int) < n := by omega
      have hpl : P.size ≤ 100 := by rw [HP.out, mk_size]; have := dp_len k; omega
      have eend : ∀ k' : Nat, k' < n → n - (intOf (.int .i64 ((k' : Int) + 1))).toNat < n - (intOf (.int .i64 (k' : Int))).toNat := fun k' hk' => by simp [intOf]; omega
      have HEE := hide' eend
      clear eend
      by_cases hk0 : k = 0
      · have k6 : ¬ (0 : Int) < k := by omega
        have hs : P ++ ⟨#[100]⟩ = mk (dp (k + 1)) := by rw [HP.out, hk0]; exact dp_one
        have HS := hide' hs
        clear hs HP
        by_cases hkt : k < t
        · have k7 : (k : Int) < t := by omega
          have q := call_mk (W := wr) k _ HS.out (by omega) (show DS w E G S (ch k) (k : Int) wr by have := HD.out; rwa [Nat.min_eq_left (by omega)] at this)
          have HQ := hide' q
          clear q HD
          go_wp2_with fail
          refine HQ.out.mono ?_
          rintro r w3 ⟨S3, rfl, hd3⟩
          have HD3 := hide' hd3
          clear hd3 HQ
          go_wp2_with (go_at_call 12; refine (lnum_any _ _).mono ?_; rintro r w0 ⟨rfl, rfl⟩)
          refine ⟨⟨k + 1, _, S3, hkn, by rw [hk0]; rfl, rfl, hide' HS.out, hide' ?_⟩, by simp [intOf]; omega⟩
          rw [Nat.min_eq_left (by omega)]
          exact HD3.out
        · have k7 : ¬ (k : Int) < t := by omega
          go_wp2_with fail
          refine ⟨⟨k + 1, _, S, hkn, by rw [hk0]; rfl, rfl, hide' HS.out, hide' ?_⟩, by simp [intOf]; omega⟩
          rw [Nat.min_eq_right (by omega)]
          have := HD.out
          rwa [Nat.min_eq_right (by omega)] at this
      · have k6 : (0 : Int) < k := by omega
        have hs : P ++ ⟨#[47]⟩ ++ ⟨#[100]⟩ = mk (dp (k + 1)) := dp_more k (by omega) P HP.out
        have HS := hide' hs
        clear hs HP
        by_cases hkt : k < t
        · have k7 : (k : Int) < t := by omega
          have q := call_mk (W := wr) k _ HS.out (by omega) (show DS w E G S (ch k) (k : Int) wr by have := HD.out; rwa [Nat.min_eq_left (by omega)] at this)
          have HQ := hide' q
          clear q HD
          go_wp2_with fail
          refine HQ.out.mono ?_
          rintro r w3 ⟨S3, rfl, hd3⟩
          have HD3 := hide' hd3
          clear hd3 HQ
          go_wp2_with (go_at_call 12; refine (lnum_any _ _).mono ?_; rintro r w0 ⟨rfl, rfl⟩)
          refine ⟨⟨k + 1, _, S3, hkn, by go_num, rfl, hide' HS.out, hide' ?_⟩, HEE.out k hkn⟩
          rw [Nat.min_eq_left (by omega)]
          exact HD3.out
        · have k7 : ¬ (k : Int) < t := by omega
          go_wp2_with fail
          refine ⟨⟨k + 1, _, S, hkn, by go_num, rfl, hide' HS.out, hide' ?_⟩, HEE.out k hkn⟩
          rw [Nat.min_eq_right (by omega)]
          have := HD.out
          rwa [Nat.min_eq_right (by omega)] at this
    · obtain rfl : k = n := by omega
      have k5 : ¬ (k : Int) < k := by omega
      have hd : DS w E G S (ch t) (t : Int) wr := by have := HD.out; rwa [Nat.min_eq_right (by omega)] at this
      have q := call_mkdirp (W := wr) k t P HP.out h1 h2 h3 hd
      obtain ⟨T1, c1, T2, c2, hT2, HR1, HR2⟩ := call_rms (w := w) (E := E) (A := G) k h1 h2
      have HQ := hide' q
      have HL := hide' (show (T2.length : Int) = (k : Int) - 1 by omega)
      clear q hd HD hT2
      by_cases hn1 : k = 1
      · have k6 : (k : Int) = 1 := by omega
        have k7 : ¬ (1 : Int) < k := by omega
        rw [if_pos hn1] at HR1 HR2
        have HRa := hide' HR1
        have HRb := hide' HR2
        clear HR1 HR2 hn1
        go_wp2_with fail
        refine HQ.out.mono ?_
        rintro r w3 ⟨a3, n3, S3, rfl, hd3⟩
        have q := call_mkdirp (W := w3) k k P HP.out h1 h2 (Nat.le_refl _) hd3
        clear HQ
        have HQ := hide' q
        clear q hd3
        go_wp2_with fail
        refine HQ.out.mono ?_
        rintro r w4 ⟨a4, n4, S4, rfl, hd4⟩
        have q := call_mkdir (W := w4) k P HP.out h1 h2 hd4
        clear HQ
        have HQ := hide' q
        clear q hd4
        go_wp2_with fail
        refine HQ.out.mono ?_
        rintro r w5 ⟨a5, n5, S5, rfl, hd5⟩
        have q := HRa.out w5 S5 hd5
        clear HQ
        have HQ := hide' q
        clear q hd5 HRa
        go_wp2_with fail
        refine HQ.out.mono ?_
        rintro r w6 ⟨a6, n6, S6, rfl, hd6⟩
        have q := HRb.out w6 S6 P HP.out hd6
        clear HQ
        have HQ := hide' q
        clear q hd6 HRb
        go_wp2_with fail
        refine HQ.out.mono ?_
        rintro r w7 ⟨a7, n7, S7, rfl, hd7⟩
        have q := call_tree hd7
        obtain ⟨m, hm⟩ : ∃ m, m = T2.length := ⟨_, rfl⟩
        rw [← hm] at q
        have hmk : (m : Int) = (k : Int) - 1 := by rw [hm]; exact HL.out
        clear HQ
        have HQ := hide' q
        clear q hd7 hm HL
        go_wp2_with fail
        refine HQ.out.mono ?_
        rintro r w8 ⟨a8, c8, x8, y8, rfl, hb8⟩
        have hfd : ∀ w : World, (Instr.field 28 (.agg #[.slice a8 m c8, x8, y8]) 0).run Tryz.prog w = .ok (.slice a8 m c8) w := fun w => by kernel_rfl
        go_wp2
        go_ret
        exact ⟨rfl, hb8⟩
      · have k6 : ¬ (k : Int) = 1 := by omega
        have kb : ((k : Int) == 1) = false := by simpa using k6
        have HKB := hide' kb
        clear kb
        have k7 : (1 : Int) < k := by omega
        rw [if_neg hn1] at HR1 HR2
        have HRa := hide' HR1
        have HRb := hide' HR2
        clear HR1 HR2 hn1
        go_wp2_with fail
        refine HQ.out.mono ?_
        rintro r w3 ⟨a3, n3, S3, rfl, hd3⟩
        have q := call_mkdirp (W := w3) k k P HP.out h1 h2 (Nat.le_refl _) hd3
        clear HQ
        have HQ := hide' q
        clear q hd3
        go_wp2_with fail
        refine HQ.out.mono ?_
        rintro r w4 ⟨a4, n4, S4, rfl, hd4⟩
        have q := call_mkdir (W := w4) k P HP.out h1 h2 hd4
        clear HQ
        have HQ := hide' q
        clear q hd4
        go_wp2_with fail
        refine HQ.out.mono ?_
        rintro r w5 ⟨a5, n5, S5, rfl, hd5⟩
        have q := HRa.out w5 S5 hd5
        clear HQ
        have HQ := hide' q
        clear q hd5 HRa
        go_wp2_with fail
        refine HQ.out.mono ?_
        rintro r w6 ⟨a6, n6, S6, rfl, hd6⟩
        have q := HRb.out w6 S6 P HP.out hd6
        clear HQ
        have HQ := hide' q
        clear q hd6 HRb
        go_wp2_with fail
        refine HQ.out.mono ?_
        rintro r w7 ⟨a7, n7, S7, rfl, hd7⟩
        have q := call_tree hd7
        obtain ⟨m, hm⟩ : ∃ m, m = T2.length := ⟨_, rfl⟩
        rw [← hm] at q
        have hmk : (m : Int) = (k : Int) - 1 := by rw [hm]; exact HL.out
        clear HQ
        have HQ := hide' q
        clear q hd7 hm HL
        go_wp2_with fail
        refine HQ.out.mono ?_
        rintro r w8 ⟨a8, c8, x8, y8, rfl, hb8⟩
        have hfd : ∀ w : World, (Instr.field 28 (.agg #[.slice a8 m c8, x8, y8]) 0).run Tryz.prog w = .ok (.slice a8 m c8) w := fun w => by kernel_rfl
        go_wp2
        go_ret
        exact ⟨by show Ending.returned (.bool (!((k : Int) == 1))) = _; rw [HKB.out]; rfl, hb8⟩

theorem udirs_any (B : Nat) (E : Addr) (n t : Int) (w : World) (hG : Glo B w E) (hB : B ≤ w.heap.size) :
    Calls Tryz.prog 6 #[.int .i64 n, .int .i64 t] w fun r w' => r = .returned (.bool true) ∧ Below w.heap.size w w' := by
  by_cases h : n < 1 ∨ 20 < n ∨ t < 0 ∨ n < t
  · exact udirs_out B E n t w hG hB h
  · obtain ⟨N, rfl⟩ : ∃ N : Nat, n = N := ⟨n.toNat, by omega⟩
    obtain ⟨T, rfl⟩ : ∃ T : Nat, t = T := ⟨t.toNat, by omega⟩
    exact udirs_in B E N T w hG hB (by omega) (by omega) (by omega)
end Go.Proofs.YtbfchadcpokjoaaGreatDoor
