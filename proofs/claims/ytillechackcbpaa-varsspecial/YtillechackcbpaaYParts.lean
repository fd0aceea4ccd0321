/- The contracts of Dir and NotDir: path's and the reference's tell the same parts of a word. -/
import Derived.Test.YtillechackcbpaaYWord
import Derived.Test.YtillechackcbpaaFind
namespace Go.Proofs.Ytillechackcbpaa.Pa
open Go.RowKit Go.Shelf

theorem lim (s : ByteArray) (a b : Nat) (hs : s.size ≤ 1000000) : (s.extract a b).size ≤ 281474976710656 := by rw [ByteArray.size_extract]; omega
theorem lps_lp (s : ByteArray) : lps 47 (tl s) s.size = lp 47 (tl s) := by rw [lps_47, lp, tl_len]

theorem slash_at (s : ByteArray) (w : World) (hs : s.size ≤ 1000000) :
    Calls Try.prog 55 #[.string s, .int .u8 47] w fun e w' => e = .returned (.int .i64 ((lp 47 (tl s) : Int) - 1)) ∧ w' = w := by
  have := lastPlace_any 47 47 rfl s w hs
  rwa [lps_lp] at this
theorem rslash_at (s : ByteArray) (w : World) (hs : s.size ≤ 1000000) :
    Calls Try.prog 57 #[.string s, .int .u8 47] w fun e w' => e = .returned (.int .i64 ((lp 47 (tl s) : Int) - 1)) ∧ w' = w := rlast_any 47 47 rfl s w hs
set_option maxHeartbeats 400000 in
theorem notDir_any (s : ByteArray) (w : World) (hs : s.size ≤ 1000000) :
    Calls Try.prog 38 #[.string s] w fun e w' => e = .returned (.string (mk (notDir (tl s)))) ∧ Below w.heap.size w w' := by
  have hd := slash_at s w hs
  have hle : lp 47 (tl s) ≤ s.size := by have := lp_le 47 (tl s); rwa [tl_len] at this
  have he : s.extract (lp 47 (tl s)) s.size = mk (notDir (tl s)) := ext_drop s _
  generalize lp 47 (tl s) = m at hd hle he
  rw [← he]
  clear he
  have q := lim s m s.size hs
  go_enter Try.func38, Try.ntmps38
  go_wp2_with fail
  refine hd.mono ?_
  rintro e w' ⟨rfl, rfl⟩
  go_wp2_with fail
  refine (clone_any _ _ (by first | exact q | exact lim _ _ _ hs)).mono ?_
  rintro e w1 ⟨rfl, hb1⟩
  go_wp2
  go_ret
  exact ⟨ret_str (by congr 1 <;> simp), hb1⟩

set_option maxHeartbeats 400000 in
theorem rnotDir_any (s : ByteArray) (w : World) (hs : s.size ≤ 1000000) :
    Calls Try.prog 41 #[.string s] w fun e w' => e = .returned (.string (mk (notDir (tl s)))) ∧ w' = w := by
  have hd := rslash_at s w hs
  have hle : lp 47 (tl s) ≤ s.size := by have := lp_le 47 (tl s); rwa [tl_len] at this
  have he : s.extract (lp 47 (tl s)) s.size = mk (notDir (tl s)) := ext_drop s _
  generalize lp 47 (tl s) = m at hd hle he
  rw [← he]
  clear he
  go_enter Try.func41, Try.ntmps41
  go_wp2_with fail
  refine hd.mono ?_
  rintro e w' ⟨rfl, rfl⟩
  go_wp2
  go_ret
  exact ⟨ret_str (by congr 1 <;> simp), rfl⟩
set_option maxHeartbeats 400000 in
theorem dir_any (s : ByteArray) (w : World) (hs : s.size ≤ 1000000) :
    Calls Try.prog 53 #[.string s] w fun e w' => e = .returned (.string (mk (dir (tl s)))) ∧ Below w.heap.size w w' := by
  have hd := slash_at s w hs
  have hle : lp 47 (tl s) ≤ s.size := by have := lp_le 47 (tl s); rwa [tl_len] at this
  have he : mk (dir (tl s)) = if lp 47 (tl s) = 0 then ⟨#[46, 47]⟩ else s.extract 0 (lp 47 (tl s)) := by
    unfold dir
    split
    · rfl
    · exact (ext_take s _).symm
  generalize lp 47 (tl s) = m at hd hle he
  rw [he]
  clear he
  by_cases h0 : m = 0
  · subst h0
    rw [if_pos rfl]
    go_enter Try.func53, Try.ntmps53
    go_wp2_with fail
    refine hd.mono ?_
    rintro e w' ⟨rfl, rfl⟩
    go_wp2
    go_ret
    exact ⟨rfl, Below.refl _ _⟩
  · rw [if_neg h0]
    obtain ⟨k, rfl⟩ : ∃ k, m = k + 1 := ⟨m - 1, by omega⟩
    have e1 : (((k + 1 : Nat) : Int) - 1) = k := by omega
    rw [e1] at hd
    clear e1 h0
    have q := lim s 0 (k + 1) hs
    go_enter Try.func53, Try.ntmps53
    go_wp2_with fail
    refine hd.mono ?_
    rintro e w' ⟨rfl, rfl⟩
    go_wp2_with fail
    refine (clone_any _ _ (by first | exact q | exact lim _ _ _ hs)).mono ?_
    rintro e w1 ⟨rfl, hb1⟩
    go_wp2
    go_ret
    exact ⟨ret_str (by congr 1), hb1⟩

set_option maxHeartbeats 400000 in
theorem rdir_any (s : ByteArray) (w : World) (hs : s.size ≤ 1000000) :
    Calls Try.prog 42 #[.string s] w fun e w' => e = .returned (.string (mk (dir (tl s)))) ∧ w' = w := by
  have hd := rslash_at s w hs
  have hle : lp 47 (tl s) ≤ s.size := by have := lp_le 47 (tl s); rwa [tl_len] at this
  have he : mk (dir (tl s)) = if lp 47 (tl s) = 0 then ⟨#[46, 47]⟩ else s.extract 0 (lp 47 (tl s)) := by
    unfold dir
    split
    · rfl
    · exact (ext_take s _).symm
  generalize lp 47 (tl s) = m at hd hle he
  rw [he]
  clear he
  by_cases h0 : m = 0
  · subst h0
    rw [if_pos rfl]
    go_enter Try.func42, Try.ntmps42
    go_wp2_with fail
    refine hd.mono ?_
    rintro e w' ⟨rfl, rfl⟩
    go_wp2
    go_ret
    exact ⟨rfl, rfl⟩
  · rw [if_neg h0]
    obtain ⟨k, rfl⟩ : ∃ k, m = k + 1 := ⟨m - 1, by omega⟩
    have e1 : (((k + 1 : Nat) : Int) - 1) = k := by omega
    rw [e1] at hd
    clear e1 h0
    go_enter Try.func42, Try.ntmps42
    go_wp2_with fail
    refine hd.mono ?_
    rintro e w' ⟨rfl, rfl⟩
    go_wp2
    go_ret
    exact ⟨ret_str (by congr 1), rfl⟩

end Go.Proofs.Ytillechackcbpaa.Pa
