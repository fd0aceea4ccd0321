/- The contracts of path.lastPlace and anvilref1.Last: the last place of a byte, from the end; path's stops at a slash. -/
import Derived.Test.YtillechackcbpaaYPlain
import Derived.WalkKit
import Derived.WalkSpells
import Derived.WalkLawsBesides
import Derived.WalkMore
import Derived.Lib.Strings
import Derived.Lib.IndexBytes
namespace Go.Proofs.Ytillechackcbpaa.Pa
open Go.RowKit

theorem lps_go (c : UInt8) (l : List UInt8) (k : Nat) (h1 : ¬ l.getD k 0 = c) (h2 : ¬ l.getD k 0 = 47) : lps c l (k + 1) = lps c l k := by rw [lps, if_neg h1, if_neg h2]
theorem lps_hit (c : UInt8) (l : List UInt8) (k : Nat) (h1 : l.getD k 0 = c) : lps c l (k + 1) = k + 1 := by rw [lps, if_pos h1]
theorem lps_stop (c : UInt8) (l : List UInt8) (k : Nat) (h1 : ¬ l.getD k 0 = c) (h2 : l.getD k 0 = 47) : lps c l (k + 1) = 0 := by rw [lps, if_neg h1, if_pos h2]
theorem lpd_go (c : UInt8) (l : List UInt8) (k : Nat) (h1 : ¬ l.getD k 0 = c) : lpd c l (k + 1) = lpd c l k := by rw [lpd, if_neg h1]
theorem lpd_hit (c : UInt8) (l : List UInt8) (k : Nat) (h1 : l.getD k 0 = c) : lpd c l (k + 1) = k + 1 := by rw [lpd, if_pos h1]

set_option maxHeartbeats 1000000 in
theorem lastPlace_any (c : UInt8) (cn : Nat) (hcn : c.toNat = cn) (s : ByteArray) (w : World) (hs : s.size ≤ 1000000) :
    Calls Try.prog 55 #[.string s, .int .u8 cn] w fun e w' => e = .returned (.int .i64 ((lps c (tl s) s.size : Int) - 1)) ∧ w' = w := by
  go_enter Try.func55, Try.ntmps55
  go_wp2
  go_step3
  go_wp2
  go_step3
  go_wp2
  go_loop [5, 6] (fun a i => a = .int .i64 (-1) ∧ ((∃ k : Nat, k < s.size ∧ i = .int .i64 k ∧ Hid (lps c (tl s) (k + 1) = lps c (tl s) s.size)) ∨ (i = .int .i64 (-1) ∧ Hid (lps c (tl s) s.size = 0)))) (fun _ i => (intOf i + 1).toNat)
  case atStart =>
    refine ⟨rfl, ?_⟩
    by_cases h0 : s.size = 0
    · exact .inr ⟨by rw [h0]; rfl, by show _ = _; rw [h0]; rfl⟩
    · exact .inl ⟨s.size - 1, by omega, by go_num, by show _ = _; rw [show s.size - 1 + 1 = s.size by omega]⟩
  case round =>
    obtain ⟨rfl, ⟨k, hk, rfl, HK⟩ | ⟨rfl, HK⟩⟩ := hrel
    · have hg := getD_at s k hk
      by_cases h1 : s[k] = c
      · have k1 := beq_yes _ _ _ hcn h1
        have HE := hide' (HK.out.symm.trans (lps_hit c (tl s) k (hg.trans h1)))
        clear HK h1 hg
        go_wp2
        go_ret
        exact ⟨ret_int (by rw [HE.out]; omega), rfl⟩
      · have k1 := beq_no _ _ _ hcn h1
        by_cases h2 : s[k] = 47
        · have k2 := beq_yes s[k] 47 47 rfl h2
          have HE := hide' (HK.out.symm.trans (lps_stop c (tl s) k (by rw [hg]; exact h1) (hg.trans h2)))
          clear HK h1 h2 hg
          go_wp2
          go_ret
          exact ⟨ret_int (by rw [HE.out]; rfl), rfl⟩
        · have k2 := beq_no s[k] 47 47 rfl h2
          have HE := hide' ((lps_go c (tl s) k (by rw [hg]; exact h1) (by rw [hg]; exact h2)).symm.trans HK.out)
          clear HK h1 h2 hg
          go_wp2
          refine ⟨⟨rfl, ?_⟩, by simp [intOf]⟩
          cases k with
          | zero => exact .inr ⟨by go_num, HE.out.symm⟩
          | succ j => exact .inl ⟨j, by omega, by go_num, HE⟩
    · go_wp2
      go_ret
      exact ⟨ret_int (by rw [HK.out]; rfl), rfl⟩

set_option maxHeartbeats 1000000 in
theorem rlast_any (c : UInt8) (cn : Nat) (hcn : c.toNat = cn) (s : ByteArray) (w : World) (hs : s.size ≤ 1000000) :
    Calls Try.prog 57 #[.string s, .int .u8 cn] w fun e w' => e = .returned (.int .i64 ((lp c (tl s) : Int) - 1)) ∧ w' = w := by
  have hlp : lp c (tl s) = lpd c (tl s) s.size := by unfold lp; rw [tl_len]
  rw [hlp]
  clear hlp
  go_enter Try.func57, Try.ntmps57
  go_wp2
  go_loop [5] (fun i => ((∃ k : Nat, k < s.size ∧ i = .int .i64 k ∧ Hid (lpd c (tl s) (k + 1) = lpd c (tl s) s.size)) ∨ (i = .int .i64 (-1) ∧ Hid (lpd c (tl s) s.size = 0)))) (fun i => (intOf i + 1).toNat)
  case atStart =>
    by_cases h0 : s.size = 0
    · exact .inr ⟨by rw [h0]; rfl, by show _ = _; rw [h0]; rfl⟩
    · exact .inl ⟨s.size - 1, by omega, by go_num, by show _ = _; rw [show s.size - 1 + 1 = s.size by omega]⟩
  case round =>
    obtain ⟨k, hk, rfl, HK⟩ | ⟨rfl, HK⟩ := hrel
    · have hg := getD_at s k hk
      by_cases h1 : s[k] = c
      · have k1 := beq_yes _ _ _ hcn h1
        have HE := hide' (HK.out.symm.trans (lpd_hit c (tl s) k (hg.trans h1)))
        clear HK h1 hg
        go_wp2
        go_ret
        exact ⟨ret_int (by rw [HE.out]; omega), rfl⟩
      · have k1 := beq_no _ _ _ hcn h1
        have HE := hide' ((lpd_go c (tl s) k (by rw [hg]; exact h1)).symm.trans HK.out)
        clear HK h1 hg
        go_wp2
        refine ⟨?_, by simp [intOf]⟩
        cases k with
        | zero => exact .inr ⟨by go_num, HE.out.symm⟩
        | succ j => exact .inl ⟨j, by omega, by go_num, HE⟩
    · go_wp2
      go_ret
      exact ⟨ret_int (by rw [HK.out]; rfl), rfl⟩
end Go.Proofs.Ytillechackcbpaa.Pa
