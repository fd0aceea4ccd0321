/- The contracts of anvilref1.Index (the first place of a byte) and anvilref5.digits. -/
import Derived.Test.YtcijjigafcpcpaaGreatDoorPr
import Derived.Test.YtcijjigafcpcpaaGreatDoorSz
namespace Go.Proofs.YtcijjigafcpcpaaGreatDoor
open Go.RowKit Go.Maps

def twh (c : UInt8) (l : Bs) : Bs := l.takeWhile (· != c)
/-- the first place of a byte -/
def ipc (c : UInt8) (l : Bs) : Int := if (twh c l).length < l.length then ((twh c l).length : Int) else -1
theorem twh_le (c : UInt8) (l : Bs) : (twh c l).length ≤ l.length := by
  unfold twh
  exact (List.takeWhile_prefix _).length_le
theorem zdrop_at (s : ByteArray) (k : Nat) (h : k < s.size) : (tl s).drop k = s[k] :: (tl s).drop (k + 1) := by
  have h' : k < (tl s).length := by rw [tl_len]; exact h
  rw [List.drop_eq_getElem_cons h']
  rfl
set_option maxHeartbeats 400000 in
theorem rfirst_any (c : UInt8) (cn : Nat) (hcn : c.toNat = cn) (s : ByteArray) (w : World) (hs : s.size ≤ 1000000) :
    Calls Tryz.prog 31 #[.string s, .int .u8 cn] w fun e w' => e = .returned (.int .i64 (ipc c (tl s))) ∧ w' = w := by
  go_enter Tryz.func31, Tryz.ntmps31
  go_wp2
  go_loop [5] (fun i => ∃ k : Nat, k ≤ s.size ∧ i = .int .i64 k ∧ Hid (twh c (tl s) = (tl s).take k ++ twh c ((tl s).drop k))) (fun i => s.size - (intOf i).toNat)
  case atStart => exact ⟨0, Nat.zero_le _, rfl, by show _ = _; simp⟩
  case round =>
    obtain ⟨k, hk, rfl, HK⟩ := hrel
    by_cases hlt : k < s.size
    · by_cases h1 : s[k] = c
      · have k1 := beq_yes s[k] c cn hcn h1
        have HI : Hid (ipc c (tl s) = k) := by
          have e : (twh c (tl s)).length = k := by
            rw [HK.out, zdrop_at s k hlt, h1]
            simp [twh, tl_len]
            omega
          show _ = _
          unfold ipc
          rw [e, tl_len, if_pos hlt]
        clear h1 HK
        go_wp2
        go_ret
        exact ⟨ret_int HI.out.symm, rfl⟩
      · have k1 := beq_no s[k] c cn hcn h1
        have HJ : Hid (twh c (tl s) = (tl s).take (k + 1) ++ twh c ((tl s).drop (k + 1))) := by
          show _ = _
          rw [HK.out, zdrop_at s k hlt]
          have e : (tl s).take (k + 1) = (tl s).take k ++ [s[k]] := by
            have h' : k < (tl s).length := by rw [tl_len]; exact hlt
            rw [List.take_add_one, List.getElem?_eq_getElem h']
            rfl
          rw [e]
          unfold twh
          rw [List.takeWhile_cons_of_pos (by simpa using h1), List.append_assoc]
          rfl
        clear h1 HK
        go_wp2
        exact ⟨⟨k + 1, by omega, by go_num, HJ⟩, by simp [intOf]; omega⟩
    · have HI : Hid (ipc c (tl s) = -1) := by
        have e : (twh c (tl s)).length = s.size := by
          rw [HK.out, List.length_append, List.drop_of_length_le (by rw [tl_len]; omega), List.take_of_length_le (by rw [tl_len]; omega), tl_len]
          simp [twh]
        show _ = _
        unfold ipc
        rw [e, tl_len, if_neg (Nat.lt_irrefl _)]
      clear HK
      go_wp2
      go_ret
      exact ⟨ret_int HI.out.symm, rfl⟩
theorem rdat_no {s : Bs} (h : twh 32 s = [] ∨ 12 < (twh 32 s).length) : rdat s = -1 := by
  unfold rdat digR
  unfold twh at h
  rw [if_pos h]
theorem rdat_bad {s : Bs} {c : UInt8} (hc : c ∈ twh 32 s) (h : dgtB c = false) : rdat s = -1 := by
  unfold rdat digR
  unfold twh at hc
  split
  · rename_i n hn
    split at hn
    · cases hn
    · split at hn
      · rename_i ha
        have := List.all_eq_true.1 ha c hc
        rw [h] at this
        cases this
      · cases hn
  · rfl
theorem rdat_yes {s : Bs} (h0 : twh 32 s ≠ []) (h1 : (twh 32 s).length ≤ 12) (h : ∀ c ∈ twh 32 s, dgt c) : rdat s = (numF 0 (twh 32 s) : Nat) := by
  unfold rdat digR
  unfold twh at h0 h1 h
  rw [if_neg (fun e => by rcases e with e | e; exact h0 e; omega), if_pos (List.all_eq_true.2 fun c hc => (dgtB_iff c).2 (h c hc))]
  rfl
theorem twh_take (c : UInt8) (l : Bs) : twh c l = l.take (twh c l).length := by
  unfold twh
  exact List.prefix_iff_eq_take.1 (List.takeWhile_prefix _)
set_option maxRecDepth 100000 in
set_option maxHeartbeats 2000000 in
theorem digits_any (s : ByteArray) (w : World) (hs : s.size ≤ 1000) :
    Calls Tryz.prog 29 #[.string s] w fun e w' => e = .returned (.int .i64 (rdat (tl s))) ∧ w' = w := by
  have q := rfirst_any 32 32 rfl s w (by omega)
  obtain ⟨K, hK⟩ : ∃ K, K = (twh 32 (tl s)).length := ⟨_, rfl⟩
  have hle := twh_le 32 (tl s)
  rw [← hK, tl_len] at hle
  have hip : ipc 32 (tl s) = if K < s.size then (K : Int) else -1 := by unfold ipc; rw [← hK, tl_len]
  rw [hip] at q
  have HK := hide' hK
  clear hK hip
  by_cases hKs : K < s.size
  · rw [if_pos hKs] at q
    have e9 : ¬ (K : Int) < 0 := by omega
    go_enter Tryz.func29, Tryz.ntmps29
    go_wp2_with fail
    by_cases h0 : K = 0 ∨ 12 < K
    · have HR := hide' (rdat_no (s := tl s) (by rw [← List.length_eq_zero_iff, ← HK.out]; exact h0))
      by_cases hz : K = 0
      · have e1 : ((K : Int) == 0) = true := beq_iff_eq.2 (by omega)
        have e3 : (K : Int) = 0 := by omega
        clear h0
        refine q.mono ?_
        rintro r w1 ⟨rfl, rfl⟩
        dsimp only
        clear q
        go_wp2
        go_ret
        exact ⟨ret_int HR.out.symm, rfl⟩
      · have e1 : ((K : Int) == 0) = false := beq_eq_false_iff_ne.2 (by omega)
        have e2 : (12 : Int) < (K : Int) := by omega
        have e3 : ¬ (K : Int) = 0 := by omega
        clear h0
        refine q.mono ?_
        rintro r w1 ⟨rfl, rfl⟩
        dsimp only
        clear q
        go_wp2
        go_ret
        exact ⟨ret_int HR.out.symm, rfl⟩
    · have e1 : ((K : Int) == 0) = false := beq_eq_false_iff_ne.2 (by omega)
      have e2 : ¬ (12 : Int) < (K : Int) := by omega
      have e3 : ¬ (K : Int) = 0 := by omega
      have h12 : 1 ≤ K ∧ K ≤ 12 := by omega
      clear h0
      refine q.mono ?_
      rintro r w1 ⟨rfl, rfl⟩
      dsimp only
      clear q
      go_wp2_with fail
      go_loop [4, 5] (fun n i => ∃ j : Nat, j ≤ K ∧ i = .int .i64 j ∧ n = .int .i64 (numF 0 ((tl s).take j) : Nat) ∧ ∀ c ∈ (tl s).take j, dgt c) (fun _ i => K - (intOf i).toNat)
      case atStart => exact ⟨0, Nat.zero_le _, rfl, by simp [numF], by simp⟩
      case round =>
        obtain ⟨j, hj, rfl, rfl, hdj⟩ := hrel
        have hlt10 := numF_lt ((tl s).take j) 0 hdj
        have hlen : ((tl s).take j).length = j := by rw [List.length_take, tl_len]; omega
        rw [hlen] at hlt10
        by_cases hjk : j < K
        · have g1 : (j : Int) < (K : Int) := by omega
          have hjs : j < s.size := by omega
          have hmem : s[j] ∈ twh 32 (tl s) := by
            rw [twh_take, ← HK.out]
            have h' : j < (tl s).length := by rw [tl_len]; exact hjs
            refine List.mem_iff_getElem.2 ⟨j, by rw [List.length_take, tl_len]; omega, ?_⟩
            rw [List.getElem_take]
            rfl
          have hpow : 10 ^ j ≤ 10 ^ 11 := Nat.pow_le_pow_right (by decide) (by omega)
          have hnb : numF 0 ((tl s).take j) < 100000000000 := by
            have : (0 + 1) * 10 ^ j = 10 ^ j := by omega
            rw [this] at hlt10
            have : (10 : Nat) ^ 11 = 100000000000 := by decide
            omega
          have hstep : numF 0 ((tl s).take (j + 1)) = 10 * numF 0 ((tl s).take j) + (s[j].toNat - 48) := by
            have h' : j < (tl s).length := by rw [tl_len]; exact hjs
            rw [List.take_add_one, List.getElem?_eq_getElem h']
            have e : (tl s)[j] = s[j] := rfl
            rw [Option.toList_some, numF_snoc, stp_eq, e]
            omega
          clear hlt10 hpow hlen
          generalize numF 0 ((tl s).take j) = N at hnb hstep ⊢
          have hs8 := s[j].toNat_lt
          by_cases hlo : s[j].toNat < 48
          · have HR := hide' (rdat_bad hmem (by unfold dgtB; simp; omega))
            have a1 : (s[j].toNat : Int) < 48 := by omega
            clear hmem hstep hdj hlo
            go_wp2
            go_ret
            exact ⟨ret_int HR.out.symm, rfl⟩
          · by_cases hhi : 57 < s[j].toNat
            · have HR := hide' (rdat_bad hmem (by unfold dgtB; simp; omega))
              have a1 : ¬ (s[j].toNat : Int) < 48 := by omega
              have a2 : (57 : Int) < (s[j].toNat : Int) := by omega
              clear hmem hstep hdj hlo hhi
              go_wp2
              go_ret
              exact ⟨ret_int HR.out.symm, rfl⟩
            · have a1 : ¬ (s[j].toNat : Int) < 48 := by omega
              have a2 : ¬ (57 : Int) < (s[j].toNat : Int) := by omega
              have HD : Hid (∀ c ∈ (tl s).take (j + 1), dgt c) := fun c hc => by
                have h' : j < (tl s).length := by rw [tl_len]; exact hjs
                rw [List.take_add_one, List.getElem?_eq_getElem h'] at hc
                rcases List.mem_append.1 hc with hc | hc
                · exact hdj c hc
                · have h9 : c = (tl s)[j] := by simpa using hc
                  have : c = s[j] := h9
                  rw [this]
                  exact ⟨by omega, by omega⟩
              have HS := hide' hstep
              clear hmem hstep hdj
              go_wp2
              refine ⟨⟨j + 1, by omega, by go_num, ?_, HD.out⟩, by simp [intOf]; omega⟩
              rw [HS.out]
              congr 1
              omega
        · obtain rfl : j = K := by omega
          have HR := hide' (rdat_yes (s := tl s) (fun e => by have := HK.out; rw [e] at this; simp at this; omega) (by rw [← HK.out]; omega) (by rw [twh_take, ← HK.out]; exact hdj))
          rw [twh_take, ← HK.out] at HR
          have g1 : ¬ (j : Int) < (j : Int) := by omega
          clear hdj hlt10 hlen
          go_wp2
          go_ret
          exact ⟨ret_int HR.out.symm, rfl⟩
  · rw [if_neg hKs] at q
    have hKe : K = s.size := by omega
    subst hKe
    go_enter Tryz.func29, Tryz.ntmps29
    go_wp2_with fail
    by_cases h0 : s.size = 0 ∨ 12 < s.size
    · have HR := hide' (rdat_no (s := tl s) (by rw [← List.length_eq_zero_iff, ← HK.out]; exact h0))
      by_cases hz : s.size = 0
      · have e1 : ((s.size : Int) == 0) = true := beq_iff_eq.2 (by omega)
        have e3 : (s.size : Int) = 0 := by omega
        clear h0
        refine q.mono ?_
        rintro r w1 ⟨rfl, rfl⟩
        dsimp only
        clear q
        go_wp2
        go_ret
        exact ⟨ret_int HR.out.symm, rfl⟩
      · have e1 : ((s.size : Int) == 0) = false := beq_eq_false_iff_ne.2 (by omega)
        have e2 : (12 : Int) < (s.size : Int) := by omega
        have e3 : ¬ (s.size : Int) = 0 := by omega
        clear h0
        refine q.mono ?_
        rintro r w1 ⟨rfl, rfl⟩
        dsimp only
        clear q
        go_wp2
        go_ret
        exact ⟨ret_int HR.out.symm, rfl⟩
    · have e1 : ((s.size : Int) == 0) = false := beq_eq_false_iff_ne.2 (by omega)
      have e2 : ¬ (12 : Int) < (s.size : Int) := by omega
      have e3 : ¬ (s.size : Int) = 0 := by omega
      have h12 : 1 ≤ s.size ∧ s.size ≤ 12 := by omega
      clear h0
      refine q.mono ?_
      rintro r w1 ⟨rfl, rfl⟩
      dsimp only
      clear q
      go_wp2_with fail
      go_loop [4, 5] (fun n i => ∃ j : Nat, j ≤ s.size ∧ i = .int .i64 j ∧ n = .int .i64 (numF 0 ((tl s).take j) : Nat) ∧ ∀ c ∈ (tl s).take j, dgt c) (fun _ i => s.size - (intOf i).toNat)
      case atStart => exact ⟨0, Nat.zero_le _, rfl, by simp [numF], by simp⟩
      case round =>
        obtain ⟨j, hj, rfl, rfl, hdj⟩ := hrel
        have hlt10 := numF_lt ((tl s).take j) 0 hdj
        have hlen : ((tl s).take j).length = j := by rw [List.length_take, tl_len]; omega
        rw [hlen] at hlt10
        by_cases hjk : j < s.size
        · have g1 : (j : Int) < (s.size : Int) := by omega
          have hjs : j < s.size := by omega
          have hmem : s[j] ∈ twh 32 (tl s) := by
            rw [twh_take, ← HK.out]
            have h' : j < (tl s).length := by rw [tl_len]; exact hjs
            refine List.mem_iff_getElem.2 ⟨j, by rw [List.length_take, tl_len]; omega, ?_⟩
            rw [List.getElem_take]
            rfl
          have hpow : 10 ^ j ≤ 10 ^ 11 := Nat.pow_le_pow_right (by decide) (by omega)
          have hnb : numF 0 ((tl s).take j) < 100000000000 := by
            have : (0 + 1) * 10 ^ j = 10 ^ j := by omega
            rw [this] at hlt10
            have : (10 : Nat) ^ 11 = 100000000000 := by decide
            omega
          have hstep : numF 0 ((tl s).take (j + 1)) = 10 * numF 0 ((tl s).take j) + (s[j].toNat - 48) := by
            have h' : j < (tl s).length := by rw [tl_len]; exact hjs
            rw [List.take_add_one, List.getElem?_eq_getElem h']
            have e : (tl s)[j] = s[j] := rfl
            rw [Option.toList_some, numF_snoc, stp_eq, e]
            omega
          clear hlt10 hpow hlen
          generalize numF 0 ((tl s).take j) = N at hnb hstep ⊢
          have hs8 := s[j].toNat_lt
          by_cases hlo : s[j].toNat < 48
          · have HR := hide' (rdat_bad hmem (by unfold dgtB; simp; omega))
            have a1 : (s[j].toNat : Int) < 48 := by omega
            clear hmem hstep hdj hlo
            go_wp2
            go_ret
            exact ⟨ret_int HR.out.symm, rfl⟩
          · by_cases hhi : 57 < s[j].toNat
            · have HR := hide' (rdat_bad hmem (by unfold dgtB; simp; omega))
              have a1 : ¬ (s[j].toNat : Int) < 48 := by omega
              have a2 : (57 : Int) < (s[j].toNat : Int) := by omega
              clear hmem hstep hdj hlo hhi
              go_wp2
              go_ret
              exact ⟨ret_int HR.out.symm, rfl⟩
            · have a1 : ¬ (s[j].toNat : Int) < 48 := by omega
              have a2 : ¬ (57 : Int) < (s[j].toNat : Int) := by omega
              have HD : Hid (∀ c ∈ (tl s).take (j + 1), dgt c) := fun c hc => by
                have h' : j < (tl s).length := by rw [tl_len]; exact hjs
                rw [List.take_add_one, List.getElem?_eq_getElem h'] at hc
                rcases List.mem_append.1 hc with hc | hc
                · exact hdj c hc
                · have h9 : c = (tl s)[j] := by simpa using hc
                  have : c = s[j] := h9
                  rw [this]
                  exact ⟨by omega, by omega⟩
              have HS := hide' hstep
              clear hmem hstep hdj
              go_wp2
              refine ⟨⟨j + 1, by omega, by go_num, ?_, HD.out⟩, by simp [intOf]; omega⟩
              rw [HS.out]
              congr 1
              omega
        · have hje : j = s.size := by omega
          subst hje
          have HR := hide' (rdat_yes (s := tl s) (fun e => by have h9 : s.size = List.length (twh 32 (tl s)) := HK.out; rw [e, List.length_nil] at h9; omega) (by rw [← HK.out]; omega) (by rw [twh_take, ← HK.out]; exact hdj))
          rw [twh_take, ← HK.out] at HR
          have g1 : ¬ (s.size : Int) < (s.size : Int) := by omega
          clear hdj hlt10 hlen
          go_wp2
          go_ret
          exact ⟨ret_int HR.out.symm, rfl⟩
end Go.Proofs.YtcijjigafcpcpaaGreatDoor
