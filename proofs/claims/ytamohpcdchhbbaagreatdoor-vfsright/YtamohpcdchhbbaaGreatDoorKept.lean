/- The contracts of path.withoutLast and path.kept: a new list of the names that are left when a path is cleaned. -/
import Derived.Test.YtamohpcdchhbbaaGreatDoorNames
namespace Go.Proofs.YtamohpcdchhbbaaGreatDoor
open Go.RowKit Go.Shelf

theorem row_form {W : World} {base : Nat} {v : Value} {K : List (List UInt8)} (h : Row W base v K) (hne : K ≠ []) : ∃ g cap, v = .slice (some ⟨g, 0, none⟩) K.length cap ∧ K.length ≤ cap ∧ cap ≤ maxLen ∧ g < W.heap.size ∧ (∀ j, j < K.length → W.cell? ⟨g, j, none⟩ = some (sv (K.getD j []))) ∧ Row W base (.slice (some ⟨g, 0, none⟩) (K.length - 1) cap) K.dropLast := by
  have h0 := h
  rcases Strs.of_row h with ⟨_, e⟩ | _
  · exact absurd e hne
  · rcases h.2 with ⟨rfl, e0⟩ | ⟨g, cap, cur, rfl, hg, hgb, h1, h2, h3, h4⟩
    · exact absurd (List.length_eq_zero_iff.1 e0) hne
    · have hlt := (Array.getElem?_eq_some_iff.1 hgb).1
      refine ⟨g, cap, rfl, h1, h2, hlt, fun j hj => ?_, ?_⟩
      · have hj' : (K.map sv)[j]? = some (sv (K.getD j [])) := by
          rw [List.getElem?_map, List.getD_eq_getElem?_getD, List.getElem?_eq_getElem hj]; rfl
        rw [← h4, List.getElem?_take_of_lt (by omega)] at hj'
        simp only [World.cell?, hgb]
        simpa using hj'
      · refine ⟨?_, .inr ⟨g, cap, cur, ?_, hg, hgb, ?_, h2, h3, ?_⟩⟩
        · simp
        · rw [List.length_dropLast]
        · rw [List.length_dropLast]; omega
        · have hl : cur.toList.length = cur.size := by simp
          rw [List.length_dropLast, List.map_dropLast, ← h4, List.dropLast_eq_take, List.take_take, List.length_take, hl, h3]
          congr 1
          omega

set_option maxHeartbeats 400000 in
theorem without_some (g n cap : Nat) (w : World) (h0 : 0 < n) (h1 : n ≤ cap) (h2 : cap ≤ maxLen) :
    Calls Tryz.prog 105 #[.slice (some ⟨g, 0, none⟩) n cap] w fun e w' => e = .returned (.slice (some ⟨g, 0, none⟩) (n - 1) cap) ∧ w' = w := by
  unfold maxLen at h2
  obtain ⟨m, rfl⟩ : ∃ m, n = m + 1 := ⟨n - 1, by omega⟩
  go_enter Tryz.func105, Tryz.ntmps105
  go_wp2
  go_ret
  exact ⟨by simp, rfl⟩

theorem cut_ne (l : List UInt8) : cut l ≠ [] := by
  intro e
  have := cut_tw l
  rw [e] at this
  simp [tw] at this
theorem keep_next (K : List (List UInt8)) (k : Nat) (h : k < K.length) : keep [] (K.take (k + 1)) = kstep (keep [] (K.take k)) (K.getD k []) := by
  rw [List.take_succ_eq_append_getElem h, keep_append, List.getD_eq_getElem?_getD, List.getElem?_eq_getElem h]
  rfl
theorem cut_len (l : List UInt8) : (cut l).length ≤ l.length + 1 := by have := len_tw (cut l); rwa [cut_tw] at this
theorem k_skip (M : List (List UInt8)) (x : List UInt8) (h : x = [] ∨ x = [46]) : kstep M x = M := by unfold kstep; rw [if_pos h]
theorem k_back (M : List (List UInt8)) : kstep M [46, 46] = M.dropLast := by unfold kstep; rw [if_neg (by decide), if_pos rfl]
theorem k_more (M : List (List UInt8)) (x : List UInt8) (h1 : x ≠ []) (h2 : x ≠ [46]) (h3 : x ≠ [46, 46]) : kstep M x = M ++ [x] := by unfold kstep; rw [if_neg (by intro e; rcases e with e | e; exact h1 e; exact h2 e), if_neg h3]
theorem mk_ne (x y : List UInt8) (h : x ≠ y) : mk x ≠ mk y := fun e => h (by rw [← tl_mk x, e, tl_mk])

set_option maxRecDepth 100000 in
set_option maxHeartbeats 2000000 in
theorem kept_any (s : ByteArray) (hs : s.size ≤ 500000) (w : World) :
    Calls Tryz.prog 82 #[.string s] w fun e W' => ∃ v : Value, e = .returned v ∧ Row W' w.heap.size v (kpt (tl s)) ∧ Below w.heap.size w W' := by
  obtain ⟨i0, hi, hz0, hz1, hz2⟩ := info_parts info9
  go_enter Tryz.func82, Tryz.ntmps82
  go_wp2_with fail
  refine (names_any s (by omega) _).mono ?_
  rintro e w1 ⟨v1, rfl, hrow1, hB1⟩
  have hKl := cut_len (tl s)
  rw [tl_len] at hKl
  obtain ⟨g, cap, rfl, hc1, hc2, hg, hcell, _⟩ := row_form hrow1 (cut_ne _)
  clear hrow1
  have HK : Hid (keep [] (cut (tl s)) = kpt (tl s)) := rfl
  generalize cut (tl s) = K at hKl hc1 hcell HK
  have HC := hide' hcell
  clear hcell
  have hsz1 := hB1.size
  go_wp2
  go_loopw [3, 9] (fun o i wr => ∃ (k : Nat) (M : List (List UInt8)), k ≤ K.length ∧ i = .int .i64 k ∧ M.length ≤ k ∧ Row wr w1.heap.size o M ∧ Below w1.heap.size w1 wr ∧ Hid (M = keep [] (K.take k))) (fun _ i _ => K.length - (intOf i).toNat)
  case atStart => exact ⟨0, [], Nat.zero_le _, rfl, Nat.le_refl _, World.ownsRow_nil _ _ _ _, Below.refl _ _, rfl⟩
  case round =>
    obtain ⟨k, M, hk, rfl, hM, hrow, hB, HM⟩ := hrel
    have hsz := hB.size
    by_cases hlt : k < K.length
    · have c1 := (hB.cell (p := ⟨g, k, none⟩) hg).trans (HC.out k hlt)
      have hnx := keep_next K k hlt
      rw [← HM.out] at hnx
      generalize K.getD k [] = x at c1 hnx
      by_cases h1 : x = []
      · subst h1
        rw [k_skip M [] (.inl rfl)] at hnx
        have HN := hide' hnx
        clear hnx HM
        go_wp2
        exact ⟨⟨k + 1, M, by omega, by go_num, by omega, hrow, hB, HN.out.symm⟩, by simp [intOf]; omega⟩
      by_cases h2 : x = [46]
      · subst h2
        rw [k_skip M [46] (.inr rfl)] at hnx
        have HN := hide' hnx
        clear hnx HM
        go_wp2
        exact ⟨⟨k + 1, M, by omega, by go_num, by omega, hrow, hB, HN.out.symm⟩, by simp [intOf]; omega⟩
      by_cases h3 : x = [46, 46]
      · subst h3
        rw [k_back] at hnx
        have HN := hide' hnx
        clear hnx HM h1 h2
        by_cases hM0 : M = []
        · subst hM0
          have hv : ∃ a c, u3 = .slice a 0 c := by
            rcases hrow.2 with ⟨rfl, _⟩ | ⟨g, cap, cur, rfl, _⟩
            · exact ⟨_, _, rfl⟩
            · exact ⟨_, _, rfl⟩
          obtain ⟨a, c, rfl⟩ := hv
          go_wp2
          exact ⟨⟨k + 1, [], by omega, by go_num, by simp, hrow, hB, HN.out.symm⟩, by simp [intOf]; omega⟩
        · obtain ⟨g2, cap2, rfl, d1, d2, _, _, hrow2⟩ := row_form hrow hM0
          have hpos : 0 < M.length := List.length_pos_iff.2 hM0
          clear hrow
          go_wp2_with (go_at_call 105; refine (without_some g2 M.length cap2 _ hpos d1 d2).mono ?_; rintro e w' ⟨rfl, rfl⟩)
          exact ⟨⟨k + 1, M.dropLast, by omega, by go_num, by rw [List.length_dropLast]; omega, hrow2, hB, HN.out.symm⟩, by simp [intOf]; omega⟩
      · rw [k_more M x h1 h2 h3] at hnx
        have HN := hide' hnx
        have hpb : M.length + 1 ≤ maxLen := by unfold maxLen; omega
        have hbb : (M.length + 1) * 16 ≤ 140737488355328 := by omega
        have h2b : ∀ o, w1.heap.size ≤ (wr.alloc o).heap.size := fun o => by simp; omega
        have j1 : x.isEmpty = false := by cases x with
          | nil => exact absurd rfl h1
          | cons _ _ => rfl
        have j2 : (x == [46]) = false := beq_eq_false_iff_ne.2 h2
        have j3 : (x == [46, 46]) = false := beq_eq_false_iff_ne.2 h3
        clear hnx HM h1 h2 h3
        go_wp2_with (at_builtin; refine wpList_append_own _ rfl _ _ 69 rfl w1.heap.size 9 i0 (.string ⟨#[]⟩) 1 16 Tryz.underlying69 hi hz0 hz1 hz2 rfl (by decide) _ _ _ rfl (hrow.alloc _) ⟨wr.heap.size, 0, none⟩ 1 1 [sv x] rfl rfl (cell_one_new _ _ _) (by simp [Value.oneCell']) hpb hbb (h2b _) ?_; intro v' w2 hown' hgrow hif; clear hif)
        exact ⟨⟨k + 1, M ++ [x], by omega, by go_num, by simp; omega, row_snoc rfl hown', app_below hB (Nat.le_refl _) hsz hrow hgrow, HN.out.symm⟩, by simp [intOf]; omega⟩
    · have hke : K.take k = K := List.take_of_length_le (by omega)
      have HF : Hid (M = kpt (tl s)) := by show _ = _; rw [HM.out, hke]; exact HK.out
      clear hke HM HK
      go_wp2
      go_ret
      exact ⟨_, rfl, by rw [← HF.out]; exact row_mono hrow hsz1, hB1.trans (hB.mono hsz1)⟩
end Go.Proofs.YtamohpcdchhbbaaGreatDoor
