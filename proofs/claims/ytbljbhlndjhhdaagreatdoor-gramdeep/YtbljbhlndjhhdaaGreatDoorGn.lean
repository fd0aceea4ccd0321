/- Names and assignments. -/
import Derived.Test.YtbljbhlndjhhdaaGreatDoorGx
import Derived.Test.YtbljbhlndjhhdaaGreatDoorPs
namespace Go.Proofs.YtbljbhlndjhhdaaGreatDoor
open Go.RowKit

/-- a byte that may stand at a name's place -/
def okAt (j : Nat) (c : UInt8) : Bool := alphaB c || (decide (j ≠ 0) && digB c)
theorem nameB_no {t : Bs} {k : Nat} {c : UInt8} (h : t[k]? = some c) (hc : okAt k c = false) : nameB t = false := by
  cases t with
  | nil => simp at h
  | cons a r =>
    cases k with
    | zero =>
      obtain rfl : a = c := by simpa using h
      have ha : alphaB a = false := by
        unfold okAt at hc
        simpa using hc
      simp [nameB, ha]
    | succ k =>
      have h' : r[k]? = some c := by simpa using h
      have hc' : (alphaB c || digB c) = false := by
        unfold okAt at hc
        simpa using hc
      have : r.all (fun c => alphaB c || digB c) = false := by
        rw [List.all_eq_false]
        exact ⟨c, List.mem_of_getElem? h', by rw [hc']; simp⟩
      simp [nameB, this]
theorem nameB_yes {t : Bs} (h0 : t ≠ []) (h : ∀ k c, t[k]? = some c → okAt k c = true) : nameB t = true := by
  cases t with
  | nil => exact absurd rfl h0
  | cons a r =>
    have ha := h 0 a rfl
    have hr : r.all (fun c => alphaB c || digB c) = true := by
      rw [List.all_eq_true]
      intro c hc
      obtain ⟨i, hi⟩ := List.getElem?_of_mem hc
      have := h (i + 1) c (by simpa using hi)
      unfold okAt at this
      simpa using this
    unfold okAt at ha
    simp at ha
    simp [nameB, ha, hr]
theorem ok_iff (k : Nat) (c : UInt8) : okAt k c = true ↔ (c.toNat = 95 ∨ (97 ≤ c.toNat ∧ c.toNat ≤ 122) ∨ (65 ≤ c.toNat ∧ c.toNat ≤ 90) ∨ (k ≠ 0 ∧ 48 ≤ c.toNat ∧ c.toNat ≤ 57)) := by
  have h95 : (c == 95) = true ↔ c.toNat = 95 := by
    rw [beq_iff_eq, ← UInt8.toNat_inj]
    rfl
  unfold okAt alphaB digB
  simp only [Bool.or_eq_true, Bool.and_eq_true, decide_eq_true_eq, h95]
  omega
set_option maxRecDepth 100000 in
set_option maxHeartbeats 4000000 in
theorem name_any (T : ByteArray) (w : World) (hs : T.size ≤ 100000) : Calls Tryz.prog 83 #[.string T] w fun e w' => e = .returned (.bool (nameB (tl T))) ∧ w' = w := by
  go_enter Tryz.func83, Tryz.ntmps83
  go_wp2_with fail
  go_loopw [3, 4, 7, 13, 22] (fun _ _ i _ _ wr => ∃ k : Nat, k ≤ T.size ∧ i = .int .i64 k ∧ wr = w ∧ ∀ j c, j < k → (tl T)[j]? = some c → okAt j c = true) (fun _ _ i _ _ _ => T.size - (intOf i).toNat)
  case atStart => exact ⟨0, Nat.zero_le _, rfl, rfl, fun j c hj => by omega⟩
  case round =>
    obtain ⟨k, hk, rfl, rfl, hok⟩ := hrel
    have HO := hide' hok
    clear hok
    by_cases hkl : k < T.size
    · have k1 : (k : Int) < T.size := by omega
      have hat : (tl T)[k]? = some T[k] := by
        have h1 := getD_at T k hkl
        rw [List.getD_eq_getElem?_getD] at h1
        have h2 : k < (tl T).length := by rw [tl_len]; exact hkl
        rw [List.getElem?_eq_getElem h2] at h1 ⊢
        rw [← h1]
        rfl
      have hno : okAt k T[k] = false → nameB (tl T) = false := fun h => nameB_no hat h
      have hyes : okAt k T[k] = true → ∀ j c, j < k + 1 → (tl T)[j]? = some c → okAt j c = true := fun h j c hj hc => by
        by_cases hjk : j = k
        · subst hjk
          rw [hat] at hc
          cases hc
          exact h
        · exact HO.out j c (by omega) hc
      have HN := hide' (And.intro hno hyes)
      have HI := hide' (ok_iff k T[k])
      clear hno hyes hat
      go_wp2
      all_goals (try simp only [beq_iff_eq, beq_eq_false_iff_ne, ne_eq] at *)
      all_goals try (go_ret; rw [HN.out.1 (by rw [← Bool.not_eq_true, HI.out]; omega)]; exact ⟨rfl, rfl⟩)
      all_goals refine ⟨⟨k + 1, ?_, ?_, ?_, HN.out.2 (HI.out.2 ?_)⟩, ?_⟩
      all_goals try omega
      all_goals try (simp; done)
      all_goals try (simp [intOf]; omega)
    · obtain rfl : k = T.size := by omega
      have k1 : ¬ (T.size : Int) < T.size := by omega
      have hall : nameB (tl T) = !(T.size == 0) := by
        by_cases h0 : T.size = 0
        · have : tl T = [] := List.length_eq_zero_iff.1 (by rw [tl_len]; exact h0)
          rw [this, h0]
          rfl
        · have h1 : ((T.size == 0) : Bool) = false := by simpa using h0
          rw [h1]
          refine nameB_yes (fun e => h0 (by rw [← tl_len, e]; rfl)) fun j c hc => HO.out j c ?_ hc
          have := (List.getElem?_eq_some_iff.1 hc).1
          rwa [tl_len] at this
      have HA := hide' hall
      clear hall HO
      go_wp2
      go_ret
      rw [HA.out]
      have he : T.toList.isEmpty = (T.size == 0) := by
        have h1 := tl_len T
        rw [← h1]
        show T.toList.isEmpty = _
        rw [Lib.toList_data]
        cases h : T.data.toList <;> simp [tl, h]
      exact ⟨by show Ending.returned (.bool (!T.toList.isEmpty)) = _; rw [he], rfl⟩
end Go.Proofs.YtbljbhlndjhhdaaGreatDoor
