/- The contracts of anvilref1.slashed and anvilref1.Clean. -/
import Derived.Test.YtkfkeoajakakiaaRefNames
import Derived.Test.YtkfkeoajakakiaaLawsLaw
namespace Go.Proofs.Ytkfkeoajakakiaa
open Go.RowKit Go.Shelf

theorem val_str {a b : ByteArray} (h : a = b) : Value.string a = .string b := by rw [h]
theorem slashed_nil (a : Option Addr) (cap : Nat) (w : World) :
    Calls Try.prog 28 #[.slice a 0 cap] w fun e w' => e = .returned (.string (mk [])) ∧ w' = w := by
  go_enter Try.func28, Try.ntmps28
  go_wp2
  go_loop [3, 4] (fun o i => o = .string ⟨#[]⟩ ∧ i = .int .i64 0) (fun _ _ => 0)
  case atStart => exact ⟨rfl, rfl⟩
  case round =>
    obtain ⟨rfl, rfl⟩ := hrel
    go_wp2
    go_ret
    exact ⟨rfl, rfl⟩

set_option maxRecDepth 100000 in
set_option maxHeartbeats 1000000 in
theorem slashed_some (K : List (List UInt8)) (b off cap : Nat) (w : World) (hc : ∀ j, j < K.length → w.cell? ⟨b, off + j, none⟩ = some (sv (K.getD j [])))
    (hj : tw K ≤ 1000000) :
    Calls Try.prog 28 #[.slice (some ⟨b, off, none⟩) K.length cap] w fun e w' => e = .returned (.string (mk (sl true K))) ∧ w' = w := by
  have hl : K.length ≤ 1000000 := Nat.le_trans (len_tw K) hj
  have HC := hide' hc
  clear hc
  go_enter Try.func28, Try.ntmps28
  go_wp2
  go_loop [3, 4] (fun o i => ∃ (k : Nat) (y : ByteArray), k ≤ K.length ∧ o = .string y ∧ i = .int .i64 k ∧ y.size ≤ 1000000 ∧ Hid (y = mk (sl true (K.take k)))) (fun _ i => K.length - (intOf i).toNat)
  case atStart => exact ⟨0, ⟨#[]⟩, Nat.zero_le _, rfl, rfl, Nat.zero_le _, rfl⟩
  case round =>
    obtain ⟨k, y, hk, rfl, rfl, hy, HY⟩ := hrel
    by_cases hlt : k < K.length
    · have c1 := HC.out k hlt
      have hnx := sl_next K k hlt
      have hle := Nat.le_trans (sl_take_len K (k + 1)) hj
      generalize K.getD k [] = x at c1 hnx
      have hyl : y.size = (sl true (K.take k)).length := by rw [HY.out, mk_size]
      have hz := mk_size x
      by_cases h0 : k = 0
      · rw [if_pos h0, List.nil_append] at hnx
        have HE : Hid (y ++ mk x = mk (sl true (K.take (k + 1)))) := app_eq _ _ _ (by rw [HY.out, tl_mk (sl true (K.take k)), tl_mk x, tl_mk (sl true (K.take (k + 1))), hnx])
        have hzz : y.size + x.length ≤ 1000000 := by rw [hnx, List.length_append] at hle; omega
        clear hnx hle hyl HY hz
        subst h0
        rw [Nat.add_zero] at c1
        go_wp2
        exact ⟨⟨1, y ++ mk x, by omega, rfl, by go_num, by rw [ByteArray.size_append, mk_size]; exact hzz, HE⟩, by simp [intOf]; omega⟩
      · rw [if_neg h0] at hnx
        have HE : Hid (y ++ ⟨#[47]⟩ ++ mk x = mk (sl true (K.take (k + 1)))) := app_eq _ _ _ (by rw [tl_append, HY.out, tl_mk (sl true (K.take k)), tl_mk x, tl_mk (sl true (K.take (k + 1))), hnx, List.append_assoc]; rfl)
        have hzz : y.size + 1 + x.length ≤ 1000000 := by rw [hnx, List.length_append, List.length_append] at hle; simp at hle; omega
        have d0 : (0 : Int) < k := by omega
        have h1 : (y ++ (⟨#[47]⟩ : ByteArray)).size = y.size + 1 := by rw [ByteArray.size_append]; rfl
        clear hnx hle hyl HY hz h0
        go_wp2
        exact ⟨⟨k + 1, y ++ ⟨#[47]⟩ ++ mk x, by omega, rfl, by go_num, by rw [ByteArray.size_append, h1, mk_size]; exact hzz, HE⟩, by simp [intOf]; omega⟩
    · have hke : K.take k = K := List.take_of_length_le (by omega)
      have HF : Hid (y = mk (sl true K)) := by show _ = _; rw [HY.out, hke]
      clear hke HY
      go_wp2
      go_ret
      exact ⟨ret_str HF.out, rfl⟩

theorem slashed_any (K : List (List UInt8)) (v : Value) (w : World) (h : Strs w v K) (hj : tw K ≤ 1000000) :
    Calls Try.prog 28 #[v] w fun e w' => e = .returned (.string (mk (sl true K))) ∧ w' = w := by
  rcases h with ⟨rfl, rfl⟩ | ⟨b, off, cap, rfl, h1, h2, h3, h4⟩
  · exact slashed_nil none 0 w
  · exact slashed_some K b off cap w h4 hj

theorem nms_tw (s : ByteArray) : (nms (tl s)).length ≤ s.size + 1 := by
  have h1 := ne_len (cut (tl s))
  have h2 := cut_len (tl s)
  rw [tl_len] at h2
  rw [ne_nms] at h1
  omega
theorem nms_ne (l : List UInt8) : ∀ x ∈ nms l, x ≠ [] := by
  intro x hx e
  subst e
  simp [nms] at hx

set_option maxRecDepth 100000 in
set_option maxHeartbeats 2000000 in
theorem rclean_any (s : ByteArray) (hs : s.size ≤ 400000) (w : World) :
    Calls Try.prog 9 #[.string s] w fun e W' => e = .returned (.string (mk (clean (tl s)))) ∧ Below w.heap.size w W' := by
  obtain ⟨i0, hi, hz0, hz1, hz2⟩ := info_parts info9
  have htw := kpt_tw' s (by omega)
  have HK : Hid (keep [] (nms (tl s)) = kpt (tl s)) := keep_nms _
  have HCl : Hid (sl true (kpt (tl s)) = clean (tl s)) := rfl
  have hKl := nms_tw s
  have HNE := hide' (nms_ne (tl s))
  go_enter Try.func9, Try.ntmps9
  go_wp2_with fail
  refine (rnames_any s (by omega) _).mono ?_
  rintro e w1 ⟨v1, rfl, hrow1, hB1⟩
  have hsz1 := hB1.size
  by_cases hnil : nms (tl s) = []
  · rw [hnil] at hrow1 HK
    have hv : ∃ a c, v1 = .slice a 0 c := by
      rcases hrow1.2 with ⟨rfl, _⟩ | ⟨g, cap, cur, rfl, _⟩
      · exact ⟨_, _, rfl⟩
      · exact ⟨_, _, rfl⟩
    obtain ⟨a, c, rfl⟩ := hv
    have HF : Hid (mk [] = mk (clean (tl s))) := by show _ = _; rw [← HCl.out, ← HK.out]; rfl
    clear hrow1 HK hnil HNE hKl htw HCl
    go_wp2
    go_loopw [4, 5] (fun o i wr => o = .slice none 0 0 ∧ i = .int .i64 0 ∧ wr = w1) (fun _ _ _ => 0)
    case atStart => exact ⟨rfl, rfl, rfl⟩
    case round =>
      obtain ⟨rfl, rfl, rfl⟩ := hrel
      go_wp2_with fail
      refine (slashed_nil none 0 _).mono ?_
      rintro e w' ⟨rfl, rfl⟩
      go_wp2
      go_ret
      exact ⟨ret_str HF.out, hB1⟩
  · obtain ⟨g, cap, rfl, hc1, hc2, hg, hcell, _⟩ := row_form hrow1 hnil
    clear hrow1 hnil
    generalize nms (tl s) = K at hKl hc1 hcell HK HNE
    have HC := hide' hcell
    clear hcell
    go_wp2
    go_loopw [4, 5] (fun o i wr => ∃ (k : Nat) (M : List (List UInt8)), k ≤ K.length ∧ i = .int .i64 k ∧ M.length ≤ k ∧ Row wr w1.heap.size o M ∧ Below w1.heap.size w1 wr ∧ Hid (M = keep [] (K.take k))) (fun _ i _ => K.length - (intOf i).toNat)
    case atStart => exact ⟨0, [], Nat.zero_le _, rfl, Nat.le_refl _, World.ownsRow_nil _ _ _ _, Below.refl _ _, rfl⟩
    case round =>
      obtain ⟨k, M, hk, rfl, hM, hrow, hB, HM⟩ := hrel
      have hsz := hB.size
      by_cases hlt : k < K.length
      · have c1 := (hB.cell (p := ⟨g, k, none⟩) hg).trans (HC.out k hlt)
        have hnx := keep_next K k hlt
        have h1 : K.getD k [] ≠ [] := HNE.out _ (by rw [List.getD_eq_getElem?_getD, List.getElem?_eq_getElem hlt]; exact List.getElem_mem hlt)
        rw [← HM.out] at hnx
        generalize K.getD k [] = x at c1 hnx h1
        by_cases h2 : x = [46]
        · subst h2
          rw [k_skip M [46] (.inr rfl)] at hnx
          have HN := hide' hnx
          clear hnx HM h1
          go_wp2
          exact ⟨⟨k + 1, M, by omega, by go_num, by omega, hrow, hB, HN.out.symm⟩, by simp [intOf]; omega⟩
        by_cases h3 : x = [46, 46]
        · subst h3
          rw [k_back] at hnx
          have HN := hide' hnx
          clear hnx HM h1 h2
          by_cases hM0 : M = []
          · subst hM0
            have hv : ∃ a c, u4 = .slice a 0 c := by
              rcases hrow.2 with ⟨rfl, _⟩ | ⟨g, cap, cur, rfl, _⟩
              · exact ⟨_, _, rfl⟩
              · exact ⟨_, _, rfl⟩
            obtain ⟨a, c, rfl⟩ := hv
            go_wp2
            exact ⟨⟨k + 1, [], by omega, by go_num, by simp, hrow, hB, HN.out.symm⟩, by simp [intOf]; omega⟩
          · obtain ⟨g2, cap2, rfl, d1, d2, _, _, hrow2⟩ := row_form hrow hM0
            have hpos : 0 < M.length := List.length_pos_iff.2 hM0
            obtain ⟨m, hm⟩ : ∃ m, M.length = m + 1 := ⟨M.length - 1, by omega⟩
            unfold maxLen at d2
            rw [hm] at d1 hpos ⊢
            rw [hm, Nat.add_sub_cancel] at hrow2
            have HL : Hid (M.length = m + 1) := hm
            clear hrow hm
            have hdp : (0 : Int) < ((m + 1 : Nat) : Int) := by omega
            go_wp2
            exact ⟨⟨k + 1, M.dropLast, by omega, by go_num, by rw [List.length_dropLast]; omega, hrow2, hB, HN.out.symm⟩, by simp [intOf]; omega⟩
        · rw [k_more M x h1 h2 h3] at hnx
          have HN := hide' hnx
          have hpb : M.length + 1 ≤ maxLen := by unfold maxLen; omega
          have hbb : (M.length + 1) * 16 ≤ 140737488355328 := by omega
          have h2b : ∀ o, w1.heap.size ≤ (wr.alloc o).heap.size := fun o => by simp; omega
          have j2 : (x == [46]) = false := beq_eq_false_iff_ne.2 h2
          have j3 : (x == [46, 46]) = false := beq_eq_false_iff_ne.2 h3
          clear hnx HM h1 h2 h3
          go_wp2_with (at_builtin; refine wpList_append_own _ rfl _ _ 29 rfl w1.heap.size 9 i0 (.string ⟨#[]⟩) 1 16 Try.underlying29 hi hz0 hz1 hz2 rfl (by decide) _ _ _ rfl (hrow.alloc _) ⟨wr.heap.size, 0, none⟩ 1 1 [sv x] rfl rfl (cell_one_new _ _ _) (by simp [Value.oneCell']) hpb hbb (h2b _) ?_; intro v' w2 hown' hgrow hif; clear hif)
          exact ⟨⟨k + 1, M ++ [x], by omega, by go_num, by simp; omega, row_snoc rfl hown', app_below hB (Nat.le_refl _) hsz hrow hgrow, HN.out.symm⟩, by simp [intOf]; omega⟩
      · have hke : K.take k = K := List.take_of_length_le (by omega)
        have HF : Hid (M = kpt (tl s)) := by show _ = _; rw [HM.out, hke]; exact HK.out
        have hj := slashed_any M _ _ (Strs.of_row hrow) (by rw [HF.out]; exact htw)
        have HE : Hid (mk (sl true M) = mk (clean (tl s))) := by show _ = _; rw [HF.out, HCl.out]
        clear hke HM HK HF htw HCl
        go_wp2_with fail
        refine hj.mono ?_
        rintro e w' ⟨rfl, rfl⟩
        go_wp2
        go_ret
        exact ⟨ret_str HE.out, hB1.trans (hB.mono hsz1)⟩
end Go.Proofs.Ytkfkeoajakakiaa
