/- The contracts of Dir, Suffix, Base: path's and the reference's. -/
import Derived.Test.YtkfkeoajakakiaaParts
namespace Go.Proofs.Ytkfkeoajakakiaa
open Go.RowKit Go.Shelf

theorem suffix_ref (l : List UInt8) : suffix l = if lp 46 (notDir l) = 0 then [] else (notDir l).drop (lp 46 (notDir l) - 1) := by
  unfold suffix
  rw [sp_ref]
  by_cases h : lp 46 (notDir l) = 0
  · rw [if_pos h, if_pos h]; simp
  · rw [if_neg h, if_neg h]
    conv => rhs; arg 2; unfold notDir
    rw [List.drop_drop]
    congr 1
    omega
theorem suffix_len (l : List UInt8) : (suffix l).length = l.length - sp l := by unfold suffix; rw [List.length_drop]

set_option maxHeartbeats 400000 in
theorem dir_any (s : ByteArray) (w : World) (hs : s.size ≤ 1000000) :
    Calls Try.prog 17 #[.string s] w fun e w' => e = .returned (.string (mk (dir (tl s)))) ∧ Below w.heap.size w w' := by
  have hd := slash_at s w hs
  have hle : lp 47 (tl s) ≤ s.size := by have := lp_le 47 (tl s); rwa [tl_len] at this
  have he : mk (dir (tl s)) = if lp 47 (tl s) = 0 then ⟨#[46, 47]⟩ else s.extract 0 (lp 47 (tl s)) := by
    unfold dir
    split
    · rfl
    · exact (ext_take s _).symm
  generalize lp 47 (tl s) = m at hd hle he
  rw [he]
  clear he
  by_cases h0 : m = 0
  · subst h0
    rw [if_pos rfl]
    go_enter Try.func17, Try.ntmps17
    go_wp2_with fail
    refine hd.mono ?_
    rintro e w' ⟨rfl, rfl⟩
    go_wp2
    go_ret
    exact ⟨rfl, Below.refl _ _⟩
  · rw [if_neg h0]
    obtain ⟨k, rfl⟩ : ∃ k, m = k + 1 := ⟨m - 1, by omega⟩
    have e1 : (((k + 1 : Nat) : Int) - 1) = k := by omega
    rw [e1] at hd
    clear e1 h0
    have q := lim s 0 (k + 1) hs
    go_enter Try.func17, Try.ntmps17
    go_wp2_with fail
    refine hd.mono ?_
    rintro e w' ⟨rfl, rfl⟩
    go_wp2_with fail
    refine (clone_any _ _ (by first | exact q | exact lim _ _ _ hs)).mono ?_
    rintro e w1 ⟨rfl, hb1⟩
    go_wp2
    go_ret
    exact ⟨ret_str (by congr 1), hb1⟩

set_option maxHeartbeats 400000 in
theorem rdir_any (s : ByteArray) (w : World) (hs : s.size ≤ 1000000) :
    Calls Try.prog 18 #[.string s] w fun e w' => e = .returned (.string (mk (dir (tl s)))) ∧ w' = w := by
  have hd := rslash_at s w hs
  have hle : lp 47 (tl s) ≤ s.size := by have := lp_le 47 (tl s); rwa [tl_len] at this
  have he : mk (dir (tl s)) = if lp 47 (tl s) = 0 then ⟨#[46, 47]⟩ else s.extract 0 (lp 47 (tl s)) := by
    unfold dir
    split
    · rfl
    · exact (ext_take s _).symm
  generalize lp 47 (tl s) = m at hd hle he
  rw [he]
  clear he
  by_cases h0 : m = 0
  · subst h0
    rw [if_pos rfl]
    go_enter Try.func18, Try.ntmps18
    go_wp2_with fail
    refine hd.mono ?_
    rintro e w' ⟨rfl, rfl⟩
    go_wp2
    go_ret
    exact ⟨rfl, rfl⟩
  · rw [if_neg h0]
    obtain ⟨k, rfl⟩ : ∃ k, m = k + 1 := ⟨m - 1, by omega⟩
    have e1 : (((k + 1 : Nat) : Int) - 1) = k := by omega
    rw [e1] at hd
    clear e1 h0
    go_enter Try.func18, Try.ntmps18
    go_wp2_with fail
    refine hd.mono ?_
    rintro e w' ⟨rfl, rfl⟩
    go_wp2
    go_ret
    exact ⟨ret_str (by congr 1), rfl⟩

set_option maxHeartbeats 400000 in
theorem suffix_any (s : ByteArray) (w : World) (hs : s.size ≤ 1000000) :
    Calls Try.prog 21 #[.string s] w fun e w' => e = .returned (.string (mk (suffix (tl s)))) ∧ Below w.heap.size w w' := by
  have hd := place_any s w hs
  have hle : sp (tl s) ≤ s.size := by have := sp_le (tl s); rwa [tl_len] at this
  have he : s.extract (sp (tl s)) s.size = mk (suffix (tl s)) := ext_drop s _
  generalize sp (tl s) = m at hd hle he
  rw [← he]
  clear he
  have q := lim s m s.size hs
  go_enter Try.func21, Try.ntmps21
  go_wp2_with fail
  refine hd.mono ?_
  rintro e w' ⟨rfl, rfl⟩
  go_wp2_with fail
  refine (clone_any _ _ (by first | exact q | exact lim _ _ _ hs)).mono ?_
  rintro e w1 ⟨rfl, hb1⟩
  go_wp2
  go_ret
  exact ⟨ret_str (by congr 1), hb1⟩

set_option maxHeartbeats 400000 in
theorem base_any (s : ByteArray) (w : World) (hs : s.size ≤ 1000000) :
    Calls Try.prog 23 #[.string s] w fun e w' => e = .returned (.string (mk (base (tl s)))) ∧ Below w.heap.size w w' := by
  have hd := place_any s w hs
  have hle : sp (tl s) ≤ s.size := by have := sp_le (tl s); rwa [tl_len] at this
  have he : s.extract 0 (sp (tl s)) = mk (base (tl s)) := ext_take s _
  generalize sp (tl s) = m at hd hle he
  rw [← he]
  clear he
  have q := lim s 0 m hs
  go_enter Try.func23, Try.ntmps23
  go_wp2_with fail
  refine hd.mono ?_
  rintro e w' ⟨rfl, rfl⟩
  go_wp2_with fail
  refine (clone_any _ _ (by first | exact q | exact lim _ _ _ hs)).mono ?_
  rintro e w1 ⟨rfl, hb1⟩
  go_wp2
  go_ret
  exact ⟨ret_str (by congr 1), hb1⟩

set_option maxHeartbeats 400000 in
theorem rsuffix_any (s : ByteArray) (w : World) (hs : s.size ≤ 1000000) :
    Calls Try.prog 22 #[.string s] w fun e w' => e = .returned (.string (mk (suffix (tl s)))) ∧ w' = w := by
  have hn := fun w => rnotDir_any s w hs
  have hnl : (mk (notDir (tl s))).size ≤ 1000000 := by rw [mk_size]; unfold notDir; rw [List.length_drop, tl_len]; omega
  have hk := fun w => rdot_at (mk (notDir (tl s))) w hnl
  simp only [tl_mk] at hk
  have hle : lp 46 (notDir (tl s)) ≤ (mk (notDir (tl s))).size := by rw [mk_size]; exact lp_le _ _
  have he : mk (suffix (tl s)) = if lp 46 (notDir (tl s)) = 0 then ⟨#[]⟩ else (mk (notDir (tl s))).extract (lp 46 (notDir (tl s)) - 1) (mk (notDir (tl s))).size := by
    rw [suffix_ref, ext_drop, tl_mk]
    split <;> rfl
  generalize lp 46 (notDir (tl s)) = m at hk hle he
  generalize mk (notDir (tl s)) = n at hn hnl hk hle he
  rw [he]
  clear he
  by_cases h0 : m = 0
  · subst h0
    rw [if_pos rfl]
    go_enter Try.func22, Try.ntmps22
    go_wp2_with fail
    refine (hn _).mono ?_
    rintro e w' ⟨rfl, rfl⟩
    go_wp2_with fail
    refine (hk _).mono ?_
    rintro e w' ⟨rfl, rfl⟩
    go_wp2
    go_ret
    exact ⟨rfl, rfl⟩
  · rw [if_neg h0]
    obtain ⟨k, rfl⟩ : ∃ k, m = k + 1 := ⟨m - 1, by omega⟩
    have e1 : (((k + 1 : Nat) : Int) - 1) = k := by omega
    simp only [e1] at hk
    rw [Nat.add_sub_cancel]
    clear e1 h0
    go_enter Try.func22, Try.ntmps22
    go_wp2_with fail
    refine (hn _).mono ?_
    rintro e w' ⟨rfl, rfl⟩
    go_wp2_with fail
    refine (hk _).mono ?_
    rintro e w' ⟨rfl, rfl⟩
    go_wp2
    go_ret
    exact ⟨ret_str (by congr 1), rfl⟩

set_option maxHeartbeats 400000 in
theorem rbase_any (s : ByteArray) (w : World) (hs : s.size ≤ 1000000) :
    Calls Try.prog 24 #[.string s] w fun e w' => e = .returned (.string (mk (base (tl s)))) ∧ w' = w := by
  have hn := rsuffix_any s w hs
  have hsz : (mk (suffix (tl s))).size = s.size - sp (tl s) := by rw [mk_size, suffix_len, tl_len]
  have hle : sp (tl s) ≤ s.size := by have := sp_le (tl s); rwa [tl_len] at this
  have he : s.extract 0 (sp (tl s)) = mk (base (tl s)) := ext_take s _
  generalize mk (suffix (tl s)) = n at hn hsz
  generalize sp (tl s) = m at hsz hle he
  obtain ⟨k, hk⟩ : ∃ k, k = n.size := ⟨_, rfl⟩
  have hm : m = s.size - n.size := by omega
  rw [← he, hm]
  clear he hk k
  have hn2 : n.size ≤ s.size := by omega
  clear hm hsz hle
  go_enter Try.func24, Try.ntmps24
  go_wp2_with fail
  refine hn.mono ?_
  rintro e w' ⟨rfl, rfl⟩
  go_wp2
  go_ret
  exact ⟨ret_str (by congr 1 <;> omega), rfl⟩
end Go.Proofs.Ytkfkeoajakakiaa
