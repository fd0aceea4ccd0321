/- The contract of the law PathLaws: it answers true whatever the path is. -/
import Derived.Test.YtkfkeoajakakiaaClean
namespace Go.Proofs.Ytkfkeoajakakiaa
open Go.RowKit Go.Shelf

theorem app_eq (a b s : ByteArray) (h : tl a ++ tl b = tl s) : a ++ b = s := tl_inj _ _ (by rw [tl_append]; exact h)
theorem list_ne (a b : ByteArray) (h : a ≠ b) : (a.toList == b.toList) = false := beq_eq_false_iff_ne.2 fun e => h (tl_inj _ _ (by unfold tl; rw [← Lib.toList_data, ← Lib.toList_data]; exact e))
theorem parent_size (s : ByteArray) (hs : s.size ≤ 100000) : (mk (parent (tl s))).size ≤ 200000 := by
  rw [mk_size]
  have h1 := sl_tw (kpt (tl s)).dropLast true
  have h2 := tw_dropLast (kpt (tl s))
  have h3 := kpt_tw (tl s)
  rw [tl_len] at h3
  unfold parent
  omega
theorem tw_mem (K : List (List UInt8)) (x : List UInt8) (h : x ∈ K) : x.length ≤ tw K := by
  induction K with
  | nil => cases h
  | cons y r ih =>
    rcases List.mem_cons.1 h with rfl | h
    · simp only [tw]; omega
    · have := ih h; simp only [tw]; omega
theorem last_size (s : ByteArray) (hs : s.size ≤ 100000) : (mk (last (tl s))).size ≤ 200000 := by
  rw [mk_size]
  have h3 := kpt_tw (tl s)
  rw [tl_len] at h3
  unfold last
  rcases List.eq_nil_or_concat (kpt (tl s)) with e | ⟨B, x, e⟩
  · rw [e]; exact Nat.zero_le _
  · have hx : x ∈ kpt (tl s) := by rw [e]; simp
    have := tw_mem _ _ hx
    rw [e, List.concat_eq_append]
    have e2 : (B ++ [x]).getLastD [] = x := by simp [List.getLastD_eq_getLast?]
    rw [e2]
    omega

set_option maxHeartbeats 400000 in
theorem laws_long (s : ByteArray) (w : World) (hs : 5000 < s.size) (hm : s.size ≤ maxLen) :
    Calls Try.prog 5 #[.string s] w fun e w' => e = .returned (.bool true) ∧ Below w.heap.size w w' := by
  unfold maxLen at hm
  go_enter Try.func5, Try.ntmps5
  go_wp2_with (go_at_call 7; refine (alive_any _).mono ?_; rintro e w1 ⟨rfl, hb1⟩)
  go_ret
  exact ⟨rfl, hb1⟩

set_option maxHeartbeats 1000000 in
theorem laws_main (s : ByteArray) (w : World) (hs : s.size ≤ 5000) :
    Calls Try.prog 5 #[.string s] w fun e w' => e = .returned (.bool true) ∧ Below w.heap.size w w' := by
  have hcs := clean_size s (by omega)
  have hcs2 : (mk (clean (tl s))).size ≤ 5001 := by rw [mk_size]; have := clean_len (tl s); rw [tl_len] at this; omega
  have q0 := clean_any s (by omega)
  have q1 := fun w => dir_any s w (by omega)
  have q2 := fun w => notDir_any s w (by omega)
  have p1 := clean_any (mk (clean (tl s))) hcs
  have p2 := parent_any (mk (clean (tl s))) hcs
  have p3 := last_any (mk (clean (tl s))) (by omega)
  have p4 := joinp_any (mk (parent (tl (mk (clean (tl s)))))) (mk (last (tl (mk (clean (tl s)))))) (parent_size _ (by omega)) (last_size _ (by omega))
  rw [tl_mk (clean (tl s)), clean_clean] at p1
  have e4 : clean (tl (mk (parent (tl (mk (clean (tl s)))))) ++ 47 :: tl (mk (last (tl (mk (clean (tl s))))))) = clean (tl s) := by
    rw [tl_mk (clean (tl s)), tl_mk (parent (clean (tl s))), tl_mk (last (clean (tl s)))]
    unfold parent last
    rw [kpt_clean]
    exact clean_two _
  rw [e4] at p4
  have q3 := fun w => base_any s w (by omega)
  have q4 := fun w => suffix_any s w (by omega)
  have hbs : mk (base (tl s)) ++ mk (suffix (tl s)) = s := app_eq _ _ _ (by rw [tl_mk (base (tl s)), tl_mk (suffix (tl s))]; exact base_suffix _)
  have hdn := dir_notDir (tl s)
  by_cases hn : notDir (tl s) = tl s
  · rw [hn] at q2
    simp only [mk_tl] at q2
    have hE : (⟨#[]⟩ : ByteArray) ++ s = s := app_eq _ _ _ rfl
    generalize mk (parent (tl (mk (clean (tl s))))) = xp at p2 p4
    generalize mk (last (tl (mk (clean (tl s))))) = xl at p3 p4
    generalize mk (clean (tl s)) = c at q0 p1 p2 p3 p4
    generalize mk (dir (tl s)) = x1 at q1
    generalize mk (base (tl s)) = x3 at q3 hbs
    generalize mk (suffix (tl s)) = x4 at q4 hbs
    have hz : x3.size + x4.size ≤ 5000 := by have := congrArg ByteArray.size hbs; rw [ByteArray.size_append] at this; omega
    clear hdn hn e4 hcs hcs2
    go_enter Try.func5, Try.ntmps5
    go_wp2_with fail
    refine (alive_any _).mono ?_
    rintro e w0 ⟨rfl, hb0⟩
    go_wp2_with fail
    refine (q0 _).mono ?_
    rintro e w1 ⟨rfl, hb1⟩
    have B1 := hb0.trans (hb1.mono hb0.size)
    clear hb0 hb1
    go_wp2_with fail
    refine (q1 _).mono ?_
    rintro e w2 ⟨rfl, hb2⟩
    have B2 := B1.trans (hb2.mono B1.size)
    clear hb2 B1
    go_wp2_with fail
    refine (q2 _).mono ?_
    rintro e w3 ⟨rfl, hb3⟩
    have B3 := B2.trans (hb3.mono B2.size)
    clear hb3 B2
    go_wp2_with fail
    refine (p1 _).mono ?_
    rintro e w4 ⟨rfl, hb4⟩
    have B4 := B3.trans (hb4.mono B3.size)
    clear hb4 B3
    go_wp2_with fail
    refine (p2 _).mono ?_
    rintro e w5 ⟨rfl, hb5⟩
    have B5 := B4.trans (hb5.mono B4.size)
    clear hb5 B4
    go_wp2_with fail
    refine (p3 _).mono ?_
    rintro e w6 ⟨rfl, hb6⟩
    have B6 := B5.trans (hb6.mono B5.size)
    clear hb6 B5
    go_wp2_with fail
    refine (p4 _).mono ?_
    rintro e w7 ⟨rfl, hb7⟩
    have B7 := B6.trans (hb7.mono B6.size)
    clear hb7 B6
    go_wp2_with fail
    refine (q3 _).mono ?_
    rintro e w8 ⟨rfl, hb8⟩
    have B8 := B7.trans (hb8.mono B7.size)
    clear hb8 B7
    go_wp2_with fail
    refine (q4 _).mono ?_
    rintro e w9 ⟨rfl, hb9⟩
    have B9 := B8.trans (hb9.mono B8.size)
    clear hb9 B8
    go_wp2_with fail
    refine (q2 _).mono ?_
    rintro e w10 ⟨rfl, hb10⟩
    have B10 := B9.trans (hb10.mono B9.size)
    clear hb10 B9
    go_wp2
    go_ret
    exact ⟨rfl, B10⟩
  · rw [if_neg hn] at hdn
    have hne : mk (notDir (tl s)) ≠ s := fun e => hn (by rw [← tl_mk (notDir (tl s)), e])
    have hE : mk (dir (tl s)) ++ mk (notDir (tl s)) = s := app_eq _ _ _ (by rw [tl_mk (dir (tl s)), tl_mk (notDir (tl s))]; exact hdn)
    generalize mk (parent (tl (mk (clean (tl s))))) = xp at p2 p4
    generalize mk (last (tl (mk (clean (tl s))))) = xl at p3 p4
    generalize mk (clean (tl s)) = c at q0 p1 p2 p3 p4
    generalize mk (dir (tl s)) = x1 at q1 hE
    generalize mk (notDir (tl s)) = x2 at q2 hE hne
    generalize mk (base (tl s)) = x3 at q3 hbs
    generalize mk (suffix (tl s)) = x4 at q4 hbs
    have hn2 := list_ne _ _ hne
    have hz : x3.size + x4.size ≤ 5000 := by have := congrArg ByteArray.size hbs; rw [ByteArray.size_append] at this; omega
    have hy : x1.size + x2.size ≤ 5000 := by have := congrArg ByteArray.size hE; rw [ByteArray.size_append] at this; omega
    clear hdn hn e4 hcs hcs2 hne
    go_enter Try.func5, Try.ntmps5
    go_wp2_with fail
    refine (alive_any _).mono ?_
    rintro e w0 ⟨rfl, hb0⟩
    go_wp2_with fail
    refine (q0 _).mono ?_
    rintro e w1 ⟨rfl, hb1⟩
    have B1 := hb0.trans (hb1.mono hb0.size)
    clear hb0 hb1
    go_wp2_with fail
    refine (q1 _).mono ?_
    rintro e w2 ⟨rfl, hb2⟩
    have B2 := B1.trans (hb2.mono B1.size)
    clear hb2 B1
    go_wp2_with fail
    refine (q2 _).mono ?_
    rintro e w3 ⟨rfl, hb3⟩
    have B3 := B2.trans (hb3.mono B2.size)
    clear hb3 B2
    go_wp2_with fail
    refine (p1 _).mono ?_
    rintro e w4 ⟨rfl, hb4⟩
    have B4 := B3.trans (hb4.mono B3.size)
    clear hb4 B3
    go_wp2_with fail
    refine (p2 _).mono ?_
    rintro e w5 ⟨rfl, hb5⟩
    have B5 := B4.trans (hb5.mono B4.size)
    clear hb5 B4
    go_wp2_with fail
    refine (p3 _).mono ?_
    rintro e w6 ⟨rfl, hb6⟩
    have B6 := B5.trans (hb6.mono B5.size)
    clear hb6 B5
    go_wp2_with fail
    refine (p4 _).mono ?_
    rintro e w7 ⟨rfl, hb7⟩
    have B7 := B6.trans (hb7.mono B6.size)
    clear hb7 B6
    go_wp2_with fail
    refine (q3 _).mono ?_
    rintro e w8 ⟨rfl, hb8⟩
    have B8 := B7.trans (hb8.mono B7.size)
    clear hb8 B7
    go_wp2_with fail
    refine (q4 _).mono ?_
    rintro e w9 ⟨rfl, hb9⟩
    have B9 := B8.trans (hb9.mono B8.size)
    clear hb9 B8
    go_wp2_with fail
    refine (q2 _).mono ?_
    rintro e w10 ⟨rfl, hb10⟩
    have B10 := B9.trans (hb10.mono B9.size)
    clear hb10 B9
    go_wp2
    go_ret
    exact ⟨rfl, B10⟩

theorem laws_any (s : ByteArray) (w : World) (hs : s.size ≤ maxLen) :
    Calls Try.prog 5 #[.string s] w fun e w' => e = .returned (.bool true) ∧ Below w.heap.size w w' := by
  by_cases h1 : s.size ≤ 5000
  · exact laws_main s w h1
  · exact laws_long s w (by omega) hs
end Go.Proofs.Ytkfkeoajakakiaa
