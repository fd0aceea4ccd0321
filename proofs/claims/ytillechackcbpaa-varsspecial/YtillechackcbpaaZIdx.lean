/- The contract of anvilref1.Index. -/
import Derived.Test.YtillechackcbpaaZDir
namespace Go.Proofs.Ytillechackcbpaa.Sp
open Go.RowKit Go.Shelf Go.Proofs.Ytillechackcbpaa.Pa

set_option maxHeartbeats 1000000 in
theorem rindex_b (c : UInt8) (s : ByteArray) (w : World) (b : Bool) (hb : Hid ((tl s).contains c = b)) (hs : s.size ≤ 1000000) :
    Calls Try.prog 39 #[.string s, .int .u8 c.toNat] w fun e w' => (∃ k : Int, e = .returned (.int .i64 k) ∧ ((decide (k < 0)) = !b)) ∧ w' = w := by
  go_enter Try.func39, Try.ntmps39
  go_wp2
  go_loop [5] (fun i => ∃ k : Nat, k ≤ s.size ∧ i = .int .i64 k ∧ Hid (∀ j, j < k → (tl s).getD j 0 ≠ c)) (fun i => s.size - (intOf i).toNat)
  case atStart => exact ⟨0, Nat.zero_le _, rfl, fun j hj => absurd hj (Nat.not_lt_zero j)⟩
  case round =>
    obtain ⟨k, hk, rfl, HK⟩ := hrel
    by_cases hlt : k < s.size
    · have hg := getD_at s k hlt
      by_cases h1 : s[k] = c
      · have k1 := beq_yes _ _ _ rfl h1
        have HE : Hid ((tl s).contains c = true) := by
          show _ = _
          rw [List.contains_iff_mem]
          have : (tl s)[k]? = some c := by
            have hl : k < (tl s).length := by rw [tl_len]; exact hlt
            rw [List.getD_eq_getElem?_getD, List.getElem?_eq_getElem hl] at hg
            rw [List.getElem?_eq_getElem hl, ← h1, ← hg]
            rfl
          exact List.mem_of_getElem? this
        clear HK h1 hg
        go_wp2
        go_ret
        exact ⟨⟨k, rfl, by rw [← hb.out, HE.out]; simp⟩, rfl⟩
      · have k1 := beq_no _ _ _ rfl h1
        have HE : Hid (∀ j, j < k + 1 → (tl s).getD j 0 ≠ c) := fun j hj => by
          by_cases hjk : j = k
          · subst hjk; rw [hg]; exact h1
          · exact HK.out j (by omega)
        clear HK h1 hg
        go_wp2
        exact ⟨⟨k + 1, by omega, by go_num, HE⟩, by simp [intOf]; omega⟩
    · have HE : Hid ((tl s).contains c = false) := by
        show _ = _
        rw [Bool.eq_false_iff]
        intro h
        rw [List.contains_iff_mem] at h
        obtain ⟨j, hj, he⟩ := List.mem_iff_getElem.1 h
        refine HK.out j (by rw [tl_len] at hj; omega) ?_
        rw [List.getD_eq_getElem?_getD, List.getElem?_eq_getElem hj]
        exact he
      clear HK
      go_wp2
      go_ret
      exact ⟨⟨-1, rfl, by rw [← hb.out, HE.out]; rfl⟩, rfl⟩
theorem rindex_auto (c : UInt8) (w : World) :
    Calls Try.prog 39 #[.string ⟨#[64, 37, 60, 63, 94, 43, 42, 124]⟩, .int .u8 c.toNat] w fun e w' => (∃ k : Int, e = .returned (.int .i64 k) ∧ ((decide (k < 0)) = !isAuto c)) ∧ w' = w :=
  rindex_b c ⟨#[64, 37, 60, 63, 94, 43, 42, 124]⟩ w (isAuto c) rfl (by decide)
end Go.Proofs.Ytillechackcbpaa.Sp
