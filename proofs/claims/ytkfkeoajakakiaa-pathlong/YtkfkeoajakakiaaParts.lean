/- The contracts of Dir, NotDir, Suffix, Base: path's and the reference's tell the same parts of a word. -/
import Derived.Test.YtkfkeoajakakiaaJoin
namespace Go.Proofs.Ytkfkeoajakakiaa
open Go.RowKit Go.Shelf

theorem ret_str {a b : ByteArray} (h : a = b) : Ending.returned (.string a) = .returned (.string b) := by rw [h]
theorem lim (s : ByteArray) (a b : Nat) (hs : s.size ≤ 1000000) : (s.extract a b).size ≤ 281474976710656 := by rw [ByteArray.size_extract]; omega
theorem lps_lp (s : ByteArray) : lps 47 (tl s) s.size = lp 47 (tl s) := by rw [lps_47, lp, tl_len]

theorem slash_at (s : ByteArray) (w : World) (hs : s.size ≤ 1000000) :
    Calls Try.prog 33 #[.string s, .int .u8 47] w fun e w' => e = .returned (.int .i64 ((lp 47 (tl s) : Int) - 1)) ∧ w' = w := by
  have := lastPlace_any 47 47 rfl s w hs
  rwa [lps_lp] at this
theorem dot_at (s : ByteArray) (w : World) (hs : s.size ≤ 1000000) :
    Calls Try.prog 33 #[.string s, .int .u8 46] w fun e w' => e = .returned (.int .i64 ((lps 46 (tl s) s.size : Int) - 1)) ∧ w' = w := lastPlace_any 46 46 rfl s w hs
theorem rslash_at (s : ByteArray) (w : World) (hs : s.size ≤ 1000000) :
    Calls Try.prog 35 #[.string s, .int .u8 47] w fun e w' => e = .returned (.int .i64 ((lp 47 (tl s) : Int) - 1)) ∧ w' = w := rlast_any 47 47 rfl s w hs
theorem rdot_at (s : ByteArray) (w : World) (hs : s.size ≤ 1000000) :
    Calls Try.prog 35 #[.string s, .int .u8 46] w fun e w' => e = .returned (.int .i64 ((lp 46 (tl s) : Int) - 1)) ∧ w' = w := rlast_any 46 46 rfl s w hs

set_option maxHeartbeats 400000 in
theorem place_any (s : ByteArray) (w : World) (hs : s.size ≤ 1000000) :
    Calls Try.prog 36 #[.string s] w fun e w' => e = .returned (.int .i64 (sp (tl s))) ∧ w' = w := by
  have hd := dot_at s w hs
  have hsp : sp (tl s) = if lps 46 (tl s) s.size = 0 then s.size else lps 46 (tl s) s.size - 1 := by unfold sp; rw [tl_len]
  have hle := lps_le 46 (tl s) s.size
  generalize lps 46 (tl s) s.size = m at hd hsp hle
  by_cases h0 : m = 0
  · rw [if_pos h0] at hsp
    rw [hsp]
    subst h0
    clear hsp
    go_enter Try.func36, Try.ntmps36
    go_wp2_with (go_at_call 33; refine hd.mono ?_; rintro e w' ⟨rfl, rfl⟩)
    go_ret
    exact ⟨rfl, rfl⟩
  · rw [if_neg h0] at hsp
    rw [hsp]
    obtain ⟨k, rfl⟩ : ∃ k, m = k + 1 := ⟨m - 1, by omega⟩
    have e1 : (((k + 1 : Nat) : Int) - 1) = k := by omega
    rw [e1] at hd
    rw [Nat.add_sub_cancel]
    clear hsp e1
    go_enter Try.func36, Try.ntmps36
    go_wp2_with (go_at_call 33; refine hd.mono ?_; rintro e w' ⟨rfl, rfl⟩)
    go_ret
    exact ⟨rfl, rfl⟩

set_option maxHeartbeats 400000 in
theorem notDir_any (s : ByteArray) (w : World) (hs : s.size ≤ 1000000) :
    Calls Try.prog 19 #[.string s] w fun e w' => e = .returned (.string (mk (notDir (tl s)))) ∧ Below w.heap.size w w' := by
  have hd := slash_at s w hs
  have hle : lp 47 (tl s) ≤ s.size := by have := lp_le 47 (tl s); rwa [tl_len] at this
  have he : s.extract (lp 47 (tl s)) s.size = mk (notDir (tl s)) := ext_drop s _
  generalize lp 47 (tl s) = m at hd hle he
  rw [← he]
  clear he
  have q := lim s m s.size hs
  go_enter Try.func19, Try.ntmps19
  go_wp2_with fail
  refine hd.mono ?_
  rintro e w' ⟨rfl, rfl⟩
  go_wp2_with fail
  refine (clone_any _ _ (by first | exact q | exact lim _ _ _ hs)).mono ?_
  rintro e w1 ⟨rfl, hb1⟩
  go_wp2
  go_ret
  exact ⟨ret_str (by congr 1 <;> simp), hb1⟩

set_option maxHeartbeats 400000 in
theorem rnotDir_any (s : ByteArray) (w : World) (hs : s.size ≤ 1000000) :
    Calls Try.prog 20 #[.string s] w fun e w' => e = .returned (.string (mk (notDir (tl s)))) ∧ w' = w := by
  have hd := rslash_at s w hs
  have hle : lp 47 (tl s) ≤ s.size := by have := lp_le 47 (tl s); rwa [tl_len] at this
  have he : s.extract (lp 47 (tl s)) s.size = mk (notDir (tl s)) := ext_drop s _
  generalize lp 47 (tl s) = m at hd hle he
  rw [← he]
  clear he
  go_enter Try.func20, Try.ntmps20
  go_wp2_with fail
  refine hd.mono ?_
  rintro e w' ⟨rfl, rfl⟩
  go_wp2
  go_ret
  exact ⟨ret_str (by congr 1 <;> simp), rfl⟩
end Go.Proofs.Ytkfkeoajakakiaa
