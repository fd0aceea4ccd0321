/- The contract of the law PathLong: it answers true whatever the two numbers are. -/
import Derived.Test.YtkfkeoajakakiaaRefValid
namespace Go.Proofs.Ytkfkeoajakakiaa
open Go.RowKit Go.Shelf

/-- a name of n bytes 'a', and a path of m such names -/
def an (n : Nat) : List UInt8 := List.replicate n 97
def lpth (n m : Nat) : List UInt8 := sl true (List.replicate m (an n))
theorem an_no (n : Nat) (c : UInt8) (h : c ≠ 97) : c ∉ an n := fun hm => h (List.eq_of_mem_replicate hm)
theorem an_len (n : Nat) : (an n).length = n := List.length_replicate
theorem an_good (n : Nat) (h : 1 ≤ n) : good (an n) := by
  refine ⟨fun e => ?_, an_no n 47 (by decide), fun e => ?_, fun e => ?_⟩
  · have := an_len n; rw [e] at this; simp at this; omega
  · exact an_no n 46 (by decide) (by rw [e]; simp)
  · exact an_no n 46 (by decide) (by rw [e]; simp)
theorem rep_good (n m : Nat) (h : 1 ≤ n) : ∀ y ∈ List.replicate m (an n), good y := fun y hy => by rw [List.eq_of_mem_replicate hy]; exact an_good n h
theorem lpth_clean (n m : Nat) (h : 1 ≤ n) : clean (lpth n m) = lpth n m := by
  unfold clean lpth
  rw [kpt_sl _ (rep_good n m h)]
theorem an_ok (n : Nat) : okn (an n) = decide (n ≤ 255) := by
  unfold okn
  have h0 : (an n).contains 0 = false := by
    cases hc : (an n).contains 0 with
    | false => rfl
    | true => exact absurd (by simpa using hc) (an_no n 0 (by decide))
  have h1 : (an n).contains 10 = false := by
    cases hc : (an n).contains 10 with
    | false => rfl
    | true => exact absurd (by simpa using hc) (an_no n 10 (by decide))
  rw [h0, h1, an_len]
  simp
theorem lpth_valid (n m : Nat) (h : 1 ≤ n) (hm : 1 ≤ m) : valid (lpth n m) = (decide (n ≤ 255) && decide ((lpth n m).length ≤ 1000)) := by
  have hne : List.replicate m (an n) ≠ [] := fun e => by have := congrArg List.length e; simp at this; omega
  have hcut : cut (lpth n m) = List.replicate m (an n) := cut_sl _ hne (fun y hy => (rep_good n m h y hy).2.1)
  have hall : (List.replicate m (an n)).all okn = decide (n ≤ 255) := by
    cases m with
    | zero => omega
    | succ k =>
      cases hd : decide (n ≤ 255) with
      | true => rw [List.all_eq_true]; intro y hy; rw [List.eq_of_mem_replicate hy, an_ok, hd]
      | false => rw [List.replicate_succ, List.all_cons, an_ok, hd]; rfl
  unfold valid
  rw [hcut, hall, lpth_clean n m h, decide_eq_true rfl, Bool.and_true, Bool.and_comm]
theorem lpth_one (n : Nat) : lpth n 1 = an n := by simp [lpth, sl]
theorem lpth_succ (n m : Nat) (hm : 1 ≤ m) : lpth n (m + 1) = lpth n m ++ 47 :: an n := by
  unfold lpth
  rw [List.replicate_succ']
  exact sl_snoc _ _ fun e => by have := congrArg List.length e; simp at this; omega
theorem tw_rep (n m : Nat) : tw (List.replicate m (an n)) = m * (1 + n) := by
  induction m with
  | zero => simp [tw]
  | succ k ih => rw [List.replicate_succ, tw, ih, an_len, Nat.succ_mul]; omega
theorem lpth_len (n m : Nat) (hn : n ≤ 300) (hm : m ≤ 10) : (lpth n m).length ≤ 3010 := by
  have h1 := sl_tw (List.replicate m (an n)) true
  rw [tw_rep] at h1
  have h2 : m * (1 + n) ≤ 10 * 301 := Nat.mul_le_mul hm (by omega)
  unfold lpth
  omega
theorem an_succ (n : Nat) : an (n + 1) = an n ++ [97] := by unfold an; rw [List.replicate_succ']

set_option maxHeartbeats 400000 in
theorem long_out (n m : Int) (w : World) (h : n < 1 ∨ 300 < n ∨ m < 1 ∨ 10 < m) :
    Calls Try.prog 6 #[.int .i64 n, .int .i64 m] w fun e w' => e = .returned (.bool true) ∧ Below w.heap.size w w' := by
  by_cases h1 : n < 1
  · go_enter Try.func6, Try.ntmps6
    go_wp2_with (go_at_call 7; refine (alive_any _).mono ?_; rintro e w1 ⟨rfl, hb1⟩)
    go_ret
    exact ⟨rfl, hb1⟩
  by_cases h2 : 300 < n
  · go_enter Try.func6, Try.ntmps6
    go_wp2_with (go_at_call 7; refine (alive_any _).mono ?_; rintro e w1 ⟨rfl, hb1⟩)
    go_ret
    exact ⟨rfl, hb1⟩
  by_cases h3 : m < 1
  · go_enter Try.func6, Try.ntmps6
    go_wp2_with (go_at_call 7; refine (alive_any _).mono ?_; rintro e w1 ⟨rfl, hb1⟩)
    go_ret
    exact ⟨rfl, hb1⟩
  · have h4 : 10 < m := by omega
    go_enter Try.func6, Try.ntmps6
    go_wp2_with (go_at_call 7; refine (alive_any _).mono ?_; rintro e w1 ⟨rfl, hb1⟩)
    go_ret
    exact ⟨rfl, hb1⟩

set_option maxRecDepth 100000 in
set_option maxHeartbeats 2000000 in
theorem long_main (n m : Nat) (w : World) (h1 : 1 ≤ n) (h2 : n ≤ 300) (h3 : 1 ≤ m) (h4 : m ≤ 10) :
    Calls Try.prog 6 #[.int .i64 n, .int .i64 m] w fun e w' => e = .returned (.bool true) ∧ Below w.heap.size w w' := by
  have k1 : ¬ (n : Int) < 1 := by omega
  have k2 : ¬ (300 : Int) < n := by omega
  have k3 : ¬ (m : Int) < 1 := by omega
  have k4 : ¬ (10 : Int) < m := by omega
  have hlen := lpth_len n m h2 h4
  have hms := mk_size (lpth n m)
  have qv := fun w => valid_any (mk (lpth n m)) w (by omega)
  have qc := clean_any (mk (lpth n m)) (by omega)
  rw [tl_mk (lpth n m), lpth_valid n m h1 h3, ← hms] at qv
  rw [tl_mk (lpth n m), lpth_clean n m h1] at qc
  rw [← hms] at hlen
  go_enter Try.func6, Try.ntmps6
  go_wp2_with fail
  refine (alive_any _).mono ?_
  rintro e w0 ⟨rfl, hB0⟩
  go_wp2
  go_loopw [6, 7] (fun s i wr => ∃ (k : Nat) (y : ByteArray), k ≤ n ∧ s = .string y ∧ i = .int .i64 k ∧ y.size = k ∧ wr = w0 ∧ Hid (y = mk (an k))) (fun _ i _ => n - (intOf i).toNat)
  case atStart => exact ⟨0, ⟨#[]⟩, Nat.zero_le _, rfl, rfl, rfl, rfl, rfl⟩
  case round =>
    obtain ⟨k, y, hk, rfl, rfl, hy, rfl, HY⟩ := hrel
    by_cases hlt : k < n
    · have HY1 : Hid (y ++ ⟨#[97]⟩ = mk (an (k + 1))) := app_eq _ _ _ (by rw [HY.out, tl_mk (an k), tl_mk (an (k + 1)), an_succ]; rfl)
      have hs1 : (y ++ (⟨#[97]⟩ : ByteArray)).size = y.size + 1 := by rw [ByteArray.size_append]; rfl
      clear HY
      go_wp2
      exact ⟨⟨k + 1, y ++ ⟨#[97]⟩, by omega, rfl, by go_num, by rw [hs1, hy], by trivial, HY1⟩, by simp [intOf]; omega⟩
    · obtain rfl : k = n := by omega
      go_wp2
      obtain ⟨wo, hwo⟩ : ∃ wo, wo = wr := ⟨_, rfl⟩
      subst hwo
      go_loopw [8, 9] (fun p i wx => ∃ (j : Nat) (z : ByteArray), 1 ≤ j ∧ j ≤ m ∧ p = .string z ∧ i = .int .i64 j ∧ z.size ≤ 3010 ∧ wx = wo ∧ Hid (z = mk (lpth k j))) (fun _ i _ => m - (intOf i).toNat)
      case atStart => exact ⟨1, y, by omega, h3, rfl, rfl, by omega, rfl, by show _ = _; rw [HY.out, lpth_one]⟩
      case round =>
        obtain ⟨j, z, hj1, hj2, rfl, rfl, hz, hw, HZ⟩ := hrel
        subst hw
        by_cases hjm : j < m
        · have HE : Hid (z ++ ⟨#[47]⟩ ++ y = mk (lpth k (j + 1))) := app_eq _ _ _ (by rw [tl_append, HZ.out, HY.out, tl_mk (lpth k j), tl_mk (an k), tl_mk (lpth k (j + 1)), lpth_succ k j hj1, List.append_assoc]; rfl)
          have hs1 : (z ++ (⟨#[47]⟩ : ByteArray)).size = z.size + 1 := by rw [ByteArray.size_append]; rfl
          have hs2 : (z ++ ⟨#[47]⟩ ++ y).size ≤ 3010 := by rw [HE.out, mk_size]; exact lpth_len k (j + 1) (by omega) (by omega)
          clear HZ
          go_wp2
          exact ⟨⟨j + 1, z ++ ⟨#[47]⟩ ++ y, by omega, by omega, rfl, by go_num, hs2, by trivial, HE⟩, by simp [intOf]; omega⟩
        · obtain rfl : j = m := by omega
          have hzz := HZ.out
          rw [← hzz] at qv qc hms
          clear HZ hzz HY hms hlen
          by_cases c1 : k ≤ 255
          · by_cases c2 : z.size ≤ 1000
            · rw [decide_eq_true c1, decide_eq_true c2] at qv
              have d1 : (k : Int) ≤ 255 := by omega
              have d2 : (z.size : Int) ≤ 1000 := by omega
              go_wp2_with fail
              refine (qv _).mono ?_
              rintro e w2 ⟨rfl, hb2⟩
              go_wp2_with fail
              refine (qc _).mono ?_
              rintro e w3 ⟨rfl, hb3⟩
              go_wp2
              go_ret
              exact ⟨rfl, (hB0.trans (hb2.mono hB0.size)).trans (hb3.mono (Nat.le_trans hB0.size hb2.size))⟩
            · rw [decide_eq_true c1, decide_eq_false c2] at qv
              have d1 : (k : Int) ≤ 255 := by omega
              have d2 : ¬ (z.size : Int) ≤ 1000 := by omega
              go_wp2_with fail
              refine (qv _).mono ?_
              rintro e w2 ⟨rfl, hb2⟩
              go_wp2_with fail
              refine (qc _).mono ?_
              rintro e w3 ⟨rfl, hb3⟩
              go_wp2
              go_ret
              exact ⟨by show Ending.returned (Value.bool (!decide ((z.size : Int) ≤ 1000))) = _; rw [decide_eq_false (by omega : ¬ (z.size : Int) ≤ 1000)]; rfl, (hB0.trans (hb2.mono hB0.size)).trans (hb3.mono (Nat.le_trans hB0.size hb2.size))⟩
          · rw [decide_eq_false c1, Bool.false_and] at qv
            have d1 : ¬ (k : Int) ≤ 255 := by omega
            go_wp2_with fail
            refine (qv _).mono ?_
            rintro e w2 ⟨rfl, hb2⟩
            go_wp2_with fail
            refine (qc _).mono ?_
            rintro e w3 ⟨rfl, hb3⟩
            go_wp2
            go_ret
            exact ⟨rfl, (hB0.trans (hb2.mono hB0.size)).trans (hb3.mono (Nat.le_trans hB0.size hb2.size))⟩

theorem long_any (n m : Int) (w : World) :
    Calls Try.prog 6 #[.int .i64 n, .int .i64 m] w fun e w' => e = .returned (.bool true) ∧ Below w.heap.size w w' := by
  by_cases h : n < 1 ∨ 300 < n ∨ m < 1 ∨ 10 < m
  · exact long_out n m w h
  · obtain ⟨a, rfl⟩ := Int.eq_ofNat_of_zero_le (show 0 ≤ n by omega)
    obtain ⟨b, rfl⟩ := Int.eq_ofNat_of_zero_le (show 0 ≤ m by omega)
    exact long_main a b w (by omega) (by omega) (by omega) (by omega)
end Go.Proofs.Ytkfkeoajakakiaa
