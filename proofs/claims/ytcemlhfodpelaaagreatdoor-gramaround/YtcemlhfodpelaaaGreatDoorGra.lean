/- GramAround answers true at every two texts. -/
import Derived.Test.YtcemlhfodpelaaaGreatDoorZg
import Derived.Test.YtcemlhfodpelaaaGreatDoorZr
namespace Go.Proofs.YtcemlhfodpelaaaGreatDoor
open Go.RowKit Go.Shelf

set_option maxRecDepth 100000 in
set_option maxHeartbeats 4000000 in
theorem garound_long (A B : ByteArray) (w : World) (hG : GloB w) (hE : EtW w) (hl : 2000 < A.size ∨ 2000 < B.size) : Yes 5 #[.string A, .string B] w := by
  have qa := alive_any w hG hE
  by_cases h1 : 2000 < A.size
  · have k1 : (2000 : Int) < (A.size : Int) := by omega
    clear hG hE
    go_enter Tryz.func5, Tryz.ntmps5
    go_wp2_with fail
    refine qa.mono ?_
    rintro e w1 ⟨rfl, hb1⟩
    have HB := hide' hb1
    clear hb1
    go_wp2_with fail
    go_ret
    exact ⟨rfl, HB.out⟩
  · have h2 : 2000 < B.size := by omega
    have k1 : ¬ (2000 : Int) < (A.size : Int) := by omega
    have k2 : (2000 : Int) < (B.size : Int) := by omega
    clear hG hE
    go_enter Tryz.func5, Tryz.ntmps5
    go_wp2_with fail
    refine qa.mono ?_
    rintro e w1 ⟨rfl, hb1⟩
    have HB := hide' hb1
    clear hb1
    go_wp2_with fail
    go_ret
    exact ⟨rfl, HB.out⟩
/-- no # and no backslash -/
def Fine2 (A : ByteArray) : Prop := ∀ i, i < A.size → (tl A).getD i 0 ≠ 35 ∧ (tl A).getD i 0 ≠ 92
theorem fine_mem {A : ByteArray} (h : Fine2 A) : (∀ b ∈ tl A, b ≠ 35) ∧ ∀ b ∈ tl A, b ≠ 92 := by
  constructor
  · intro b hb
    obtain ⟨i, hi, rfl⟩ := List.mem_iff_getElem.1 hb
    have := (h i (by rw [← tl_len]; exact hi)).1
    rwa [List.getD_eq_getElem?_getD, List.getElem?_eq_getElem hi] at this
  · intro b hb
    obtain ⟨i, hi, rfl⟩ := List.mem_iff_getElem.1 hb
    have := (h i (by rw [← tl_len]; exact hi)).2
    rwa [List.getD_eq_getElem?_getD, List.getElem?_eq_getElem hi] at this
def pick2 (A B : ByteArray) (j : Nat) : ByteArray := if j = 0 then A else B
set_option maxRecDepth 100000 in
set_option maxHeartbeats 8000000 in
theorem garound_short (A B : ByteArray) (w : World) (hG : GloB w) (hE : EtW w) (hA : A.size ≤ 2000) (hB : B.size ≤ 2000) : Yes 5 #[.string A, .string B] w := by
  have qa := alive_any w hG hE
  have k1 : ¬ (2000 : Int) < (A.size : Int) := by omega
  have k2 : ¬ (2000 : Int) < (B.size : Int) := by omega
  have HG := hide' (And.intro hG hE)
  clear hG hE
  go_enter Tryz.func5, Tryz.ntmps5
  go_wp2_with fail
  refine qa.mono ?_
  rintro e w1 ⟨rfl, hb1⟩
  clear qa
  obtain ⟨w2, hw2⟩ : ∃ w2, w2 = w1.alloc (.cells #[.string A, .string B] 9) := ⟨_, rfl⟩
  have hb2 : Below w1.heap.size w1 w2 := by rw [hw2]; exact (Below.refl _ _).alloc (Nat.le_refl _) _
  have zb : w2.heap[w1.heap.size]? = some (.cells #[.string A, .string B] 9 (0, 0)) := by rw [hw2]; exact heap_alloc_new w1 _
  have HB := hide' (hb1.trans (hb2.mono hb1.size))
  have HZ := hide' zb
  have HW2 := hide' hw2
  clear hb1 hb2 zb hw2
  dsimp only
  go_upto_region 5 with fail
  rw [← HW2.out]
  clear HW2
  go_wp2_with fail
  go_loopw [7] (fun i wr => ∃ j : Nat, j ≤ 2 ∧ i = .int .i64 j ∧ Hid (∀ i, i < j → Fine2 (pick2 A B i)) ∧ wr = w2) (fun i _ => 2 - (intOf i).toNat)
  case atStart => exact ⟨0, by omega, rfl, (fun i h => by omega), rfl⟩
  case round =>
    obtain ⟨j, hj, rfl, HF, rfl⟩ := hrel
    by_cases hjl : j < 2
    · obtain ⟨X, hX⟩ : ∃ X, X = pick2 A B j := ⟨_, rfl⟩
      have hx : wr.cell? ⟨w1.heap.size, j, none⟩ = some (.string X) := by
        rw [Lib.cell_of_heap HZ.out, hX]
        match j, hjl with
        | 0, _ => rfl
        | 1, _ => rfl
      have hXs : X.size ≤ 2000 := by rw [hX]; unfold pick2; split <;> assumption
      have kj : (j : Int) < 2 := by omega
      have HX := hide' hX
      clear hX
      go_wp2
      go_loopw [8] (fun i wq => ∃ k : Nat, k ≤ X.size ∧ i = .int .i64 k ∧ Hid (∀ i, i < k → (tl X).getD i 0 ≠ 35 ∧ (tl X).getD i 0 ≠ 92) ∧ wq = wr) (fun i _ => X.size - (intOf i).toNat)
      case atStart => exact ⟨0, Nat.zero_le _, rfl, (fun i h => by omega), rfl⟩
      case round =>
        obtain ⟨k, hk, rfl, HK, rfl⟩ := hrel
        by_cases hkl : k < X.size
        · have hg := getD_at X k hkl
          have k4 : (k : Int) < (X.size : Int) := by omega
          by_cases h1 : X[k] = 35
          · have k5 : ((X[k].toNat : Int) == 35) = true := beq_yes X[k] 35 35 rfl h1
            have k5' : (X[k].toNat : Int) = 35 := by simpa using k5
            clear HK h1 hg HX HF HG
            go_wp2
            go_ret
            exact ⟨rfl, HB.out⟩
          · have k5 : ((X[k].toNat : Int) == 35) = false := beq_no X[k] 35 35 rfl h1
            have k5' : ¬ (X[k].toNat : Int) = 35 := by simpa using k5
            by_cases h2 : X[k] = 92
            · have k6 : ((X[k].toNat : Int) == 92) = true := beq_yes X[k] 92 92 rfl h2
              have k6' : (X[k].toNat : Int) = 92 := by simpa using k6
              clear HK h1 h2 hg HX HF HG
              go_wp2
              go_ret
              exact ⟨rfl, HB.out⟩
            · have k6 : ((X[k].toNat : Int) == 92) = false := beq_no X[k] 92 92 rfl h2
              have k6' : ¬ (X[k].toNat : Int) = 92 := by simpa using k6
              have HN : Hid (∀ i, i < k + 1 → (tl X).getD i 0 ≠ 35 ∧ (tl X).getD i 0 ≠ 92) := fun i hi => by
                by_cases e : i = k
                · subst e; rw [hg]; exact ⟨h1, h2⟩
                · exact HK.out i (by omega)
              clear HK h1 h2 hg HX HF HG
              go_wp2
              exact ⟨⟨k + 1, by omega, by simp, HN, by trivial⟩, by simp [intOf]; omega⟩
        · obtain rfl : k = X.size := by omega
          have HN : Hid (∀ i, i < j + 1 → Fine2 (pick2 A B i)) := fun i hi => by
            by_cases e : i = j
            · subst e; rw [← HX.out]; exact HK.out
            · exact HF.out i (by omega)
          clear HK HX HF HG
          go_wp2
          exact ⟨⟨j + 1, by omega, by simp, HN, by trivial⟩, by simp [intOf]; omega⟩
    · obtain rfl : j = 2 := by omega
      have hFA : Fine2 A := HF.out 0 (by omega)
      have hFB : Fine2 B := HF.out 1 (by omega)
      clear HF HZ
      have qn := fun n w => (num_any n w).mono fun e w' h => And.intro h.1 h.2.symm
      have q := parse_form A wr (HG.out.1.below HB.out) (HG.out.2.below HB.out)
      go_wp2_with fail
      refine q.mono ?_
      rintro e w3 ⟨hb3, k9, ka, kn, kc, n9, rfl, hok, herr⟩
      clear q
      obtain ⟨w4, hw4⟩ : ∃ w4, w4 = w3.alloc (.cells #[.int .i64 k9, .bool false, .slice none 0 0, .slice none 0 0, .slice none 0 0, .slice ka kn kc, .slice none 0 0] 28) := ⟨_, rfl⟩
      have hb4 : Below w3.heap.size w3 w4 := by rw [hw4]; exact (Below.refl _ _).alloc (Nat.le_refl _) _
      have zA : w4.heap[w3.heap.size]? = some (.cells #[.int .i64 k9, .bool false, .slice none 0 0, .slice none 0 0, .slice none 0 0, .slice ka kn kc, .slice none 0 0] 28 (0, 0)) := by rw [hw4]; exact heap_alloc_new w3 _
      have hB4 : Below w.heap.size w w4 := (HB.out.trans (hb3.mono HB.out.size)).trans (hb4.mono (Nat.le_trans HB.out.size hb3.size))
      have q := parse_form B w4 (HG.out.1.below hB4) (HG.out.2.below hB4)
      have HW4 := hide' hw4
      have H4 := hide' (And.intro hb3 (And.intro hb4 (And.intro zA hB4)))
      clear hw4 hb3 hb4 zA hB4
      dsimp only
      go_wp2_with fail
      rw [← HW4.out]
      clear HW4
      refine q.mono ?_
      rintro e w5 ⟨hb5, k8, la', ln', lc', n8, rfl, hok', herr'⟩
      clear q
      obtain ⟨hb3, hb4, zA4, hB4⟩ := H4.out
      obtain ⟨w6, hw6⟩ : ∃ w6, w6 = w5.alloc (.cells #[.int .i64 k8, .bool false, .slice none 0 0, .slice none 0 0, .slice none 0 0, .slice la' ln' lc', .slice none 0 0] 28) := ⟨_, rfl⟩
      have hb6 : Below w5.heap.size w5 w6 := by rw [hw6]; exact (Below.refl _ _).alloc (Nat.le_refl _) _
      have zB : w6.heap[w5.heap.size]? = some (.cells #[.int .i64 k8, .bool false, .slice none 0 0, .slice none 0 0, .slice none 0 0, .slice la' ln' lc', .slice none 0 0] 28 (0, 0)) := by rw [hw6]; exact heap_alloc_new w5 _
      have hz6 : w6.heap.size = w5.heap.size + 1 := by rw [hw6]; simp
      have hb46 : Below w4.heap.size w4 w6 := hb5.trans (hb6.mono hb5.size)
      have zA := (hb46.block _ (lt_of_block zA4)).trans zA4
      have hB6 : Below w.heap.size w w6 := hB4.trans (hb46.mono hB4.size)
      have hz3 := lt_of_block zA4
      have hz45 := hb5.size
      have hne : w3.heap.size ≠ w5.heap.size := by omega
      have oA := (cells7 zA).2.2.2.2.2.1
      have oB := (cells7 zB).2.2.2.2.2.1
      have HW6 := hide' hw6
      have HE := hide' hB6
      have HZ := hide' (And.intro zA (And.intro zB (And.intro hb4 (And.intro hb46 (And.intro hb6 (And.intro hb3 hb5))))))
      clear hw6 hb3 hb4 hb5 hb6 hb46 zA zA4 zB hB4 hB6 H4
      dsimp only
      cases hRA : gramF (tl A) with
      | none => exact absurd hRA (gram_some _)
      | err m =>
        have hn9 := herr m hRA
        have hm := gram_err hRA
        have k7 : ((n9 : Int) == 0) = false := beq_eq_false_iff_ne.2 (by omega)
        have k7' : ¬ (n9 : Int) = 0 := by omega
        clear hok herr hok' herr' hRA HZ
        go_upto_region 15 with fail
        rw [← HW6.out]
        go_wp2_with (go_at_call 11; refine (qn _ _).mono ?_; rintro e w' ⟨rfl, rfl⟩)
        go_ret
        exact ⟨rfl, HE.out⟩
      | ok lA =>
        cases hRB : gramF (tl B) with
        | none => exact absurd hRB (gram_some _)
        | err m =>
          have hn8 := herr' m hRB
          have hm := gram_err hRB
          obtain ⟨rfl, -⟩ := hok lA hRA
          have k7 : ((n8 : Int) == 0) = false := beq_eq_false_iff_ne.2 (by omega)
          have k7' : ¬ (n8 : Int) = 0 := by omega
          clear hok herr hok' herr' hRA hRB HZ
          go_upto_region 15 with fail
          rw [← HW6.out]
          go_wp2_with (go_at_call 11; refine (qn _ _).mono ?_; rintro e w' ⟨rfl, rfl⟩)
          go_ret
          exact ⟨rfl, HE.out⟩
        | ok lB =>
          obtain ⟨rfl, rfl, hkn, ks, hK⟩ := hok lA hRA
          obtain ⟨rfl, rfl, hkn', ks', hK'⟩ := hok' lB hRB
          have HKn := hide' hkn
          have HKn' := hide' hkn'
          clear hok herr hok' herr' hkn hkn'
          by_cases hA0 : kn = 0
          · subst hA0
            clear hRA hRB HZ hK hK' HKn HKn'
            go_upto_region 15 with fail
            rw [← HW6.out]
            go_wp2_with (go_at_call 11; refine (qn _ _).mono ?_; rintro e w' ⟨rfl, rfl⟩)
            go_ret
            exact ⟨rfl, HE.out⟩
          · by_cases hB0 : ln' = 0
            · subst hB0
              have k7 : ((kn : Int) == 0) = false := beq_eq_false_iff_ne.2 (by omega)
              have k7' : ¬ (kn : Int) = 0 := by omega
              clear hRA hRB HZ hK hK' HKn HKn'
              go_upto_region 15 with fail
              rw [← HW6.out]
              go_wp2_with (go_at_call 11; refine (qn _ _).mono ?_; rintro e w' ⟨rfl, rfl⟩)
              go_ret
              exact ⟨rfl, HE.out⟩
            · have k7 : ((kn : Int) == 0) = false := beq_eq_false_iff_ne.2 (by omega)
              have k7' : ¬ (kn : Int) = 0 := by omega
              have k10 : ((ln' : Int) == 0) = false := beq_eq_false_iff_ne.2 (by omega)
              have k10' : ¬ (ln' : Int) = 0 := by omega
              obtain ⟨zA, zB, hb4, hb46, hb6, hb3, hb5⟩ := HZ.out
              have hb36 : Below w3.heap.size w3 w6 := hb4.trans (hb46.mono hb4.size)
              have hKA : KidsS w6 (fun g => g < w3.heap.size) (.slice ka kn kc) ks lA := (hK.mono fun g _ hl => hl).kept fun g _ hl => hb36.block g hl
              have hKB : KidsS w6 (fun g => g < w5.heap.size ∧ g ≠ w3.heap.size) (.slice la' ln' lc') ks' lB := (hK'.mono fun g hg hl => ⟨hl, by have hg : w4.heap.size ≤ g := hg; omega⟩).kept fun g _ hl => hb6.block g hl
              have hwA : w.heap.size ≤ w3.heap.size := Nat.le_trans HB.out.size hb3.size
              have hAB : w3.heap.size < w5.heap.size := by omega
              have HP := hide' (And.intro hKA (And.intro hKB (And.intro zA (And.intro zB (And.intro hwA hAB)))))
              have HTA : Hid (Txl (tl A) lA) := ⟨(fine_mem hFA).1, (fine_mem hFA).2, by rw [tl_len]; exact hA, fun e => hA0 (by rw [HKn.out, e]; rfl), hRA⟩
              have HTB : Hid (Txl (tl B) lB) := ⟨(fine_mem hFB).1, (fine_mem hFB).2, by rw [tl_len]; exact hB, fun e => hB0 (by rw [HKn'.out, e]; rfl), hRB⟩
              clear hK hK' zA zB hb4 hb46 hb6 hb3 hb5 hb36 hKA hKB hRA hRB hwA HZ
              go_upto_region 15 with fail
              rw [← HW6.out]
              go_upto_if 97 with (go_at_call 11; refine (qn _ _).mono ?_; rintro e w' ⟨rfl, rfl⟩)
              go_cut [] from 94 to 101 (fun wx => Cut1 w wx w3.heap.size w5.heap.size (aloneP lA) (.slice la' ln' lc') lB)
              case first =>
                obtain ⟨hKA, hKB, zA, zB, hwA, hAB'⟩ := HP.out
                by_cases hA1 : kn = 1
                · subst hA1
                  obtain ⟨cA, rfl⟩ := List.length_eq_one_iff.1 HKn.out.symm
                  obtain ⟨g2, cap2, k, nt, a1, a2, a3, a4, a5, n1, n2, n3, n4, n5, c1, c2, c3, c4, c5, hkv, hgl, hc, d0, d1, d2, d3, d4, d5, d6⟩ := kid_first hKA
                  cases hkv
                  obtain ⟨f0, f1, f2, f3, f4, f5, f6⟩ := fz7 zA
                  obtain ⟨oA0, oA1, oA2, oA3, oA4, oA5, oA6⟩ := cells7 zA
                  have HC := hide' (cut1_put (kv := .slice (some ⟨g2, 0, none⟩) 1 kc) HE.out zA zB hKB hc hAB' hwA)
                  clear hKA hKB zA zB hc HP
                  go_wp2_with fail
                  go_meet
                  exact HC.out
                · have k11 : ((kn : Int) == 1) = false := beq_eq_false_iff_ne.2 (by omega)
                  have k11' : ¬ (kn : Int) = 1 := by omega
                  have HC := hide' (cut1_stay (kv := .slice ka kn kc) HE.out zA zB hKA hKB (by rw [← HKn.out]; exact hA1))
                  clear hKA hKB zA zB HP
                  go_wp2_with fail
                  go_meet
                  exact HC.out
              case rest =>
                have hAB' : w3.heap.size < w5.heap.size := HP.out.2.2.2.2.2
                have hwB : w.heap.size ≤ w5.heap.size := Nat.le_trans HP.out.2.2.2.2.1 (Nat.le_of_lt hAB')
                have oB5 := (cells7 hcut.y).2.2.2.2.2.1
                have HC := hide' hcut
                clear HP hcut HE oA oB hz6
                go_upto_if 105 with fail
                go_cut [] from 102 to 109 (fun wx => Cut2 w wx w3.heap.size w5.heap.size (aloneP lA) (aloneP lB))
                case first =>
                  by_cases hB1 : ln' = 1
                  · subst hB1
                    obtain ⟨cB, rfl⟩ := List.length_eq_one_iff.1 HKn'.out.symm
                    obtain ⟨ks2, hKB⟩ := HC.out.ky
                    obtain ⟨g2, cap2, k, nt, a1, a2, a3, a4, a5, n1, n2, n3, n4, n5, c1, c2, c3, c4, c5, hkv, hgl, hc, d0, d1, d2, d3, d4, d5, d6⟩ := kid_first hKB
                    cases hkv
                    obtain ⟨f0, f1, f2, f3, f4, f5, f6⟩ := fz7 HC.out.y
                    have HD := hide' (HC.out.put hAB' hwB hc)
                    obtain ⟨oB0, oB1, oB2, oB3, oB4, oB5', oB6⟩ := cells7 HC.out.y
                    clear hKB hc HC
                    go_wp2_with fail
                    go_meet
                    exact HD.out
                  · have k11 : ((ln' : Int) == 1) = false := beq_eq_false_iff_ne.2 (by omega)
                    have k11' : ¬ (ln' : Int) = 1 := by omega
                    have HD := hide' (HC.out.stay (by rw [← HKn'.out]; exact hB1))
                    clear HC
                    go_wp2_with fail
                    go_meet
                    exact HD.out
                case rest =>
                  clear HC oB5
                  obtain ⟨hBc, ⟨x0, x1, x2, x3, x4, x5, x6, zA, hX⟩, ⟨y0, y1, y2, y3, y4, y5, y6, zB, hY⟩⟩ := hcut
                  have hX := hX.mono (S' := Any) fun _ _ _ => trivial
                  have hY := hY.mono (S' := Any) fun _ _ _ => trivial
                  obtain ⟨oA0, oA1, oA2, oA3, oA4, oA5, oA6⟩ := cells7 zA
                  obtain ⟨oB0, oB1, oB2, oB3, oB4, oB5, oB6⟩ := cells7 zB
                  have rA : ∀ (W : World) (o : Obj) (j : Nat), w3.heap.size < W.heap.size → (W.alloc o).cell? ⟨w3.heap.size, j, none⟩ = W.cell? ⟨w3.heap.size, j, none⟩ := fun W o j h => ((Below.refl W.heap.size W).alloc (Nat.le_refl _) o).cell (p := ⟨w3.heap.size, j, none⟩) h
                  have rB : ∀ (W : World) (o : Obj) (j : Nat), w5.heap.size < W.heap.size → (W.alloc o).cell? ⟨w5.heap.size, j, none⟩ = W.cell? ⟨w5.heap.size, j, none⟩ := fun W o j h => ((Below.refl W.heap.size W).alloc (Nat.le_refl _) o).cell (p := ⟨w5.heap.size, j, none⟩) h
                  have sA0 := lt_of_block zA
                  have sB0 := lt_of_block zB
                  have sA : ∀ n, w3.heap.size < wc.heap.size + n := fun n => by omega
                  have sB : ∀ n, w5.heap.size < wc.heap.size + n := fun n => by omega
                  have hfm := hX.form
                  clear zA zB
                  go_upto_region 23 with fail
                  generalize hW9 : (((((((((((wc).alloc (.cells #[.string ((⟨#[40]⟩ : ByteArray) ++ A ++ ⟨#[10, 41]⟩), .string ((⟨#[123, 32]⟩ : ByteArray) ++ A ++ ⟨#[10, 125]⟩), .string ((⟨#[105, 102, 32]⟩ : ByteArray) ++ A ++ ⟨#[10, 116, 104, 101, 110, 32]⟩ ++ B ++ ⟨#[10, 102, 105]⟩), .string ((⟨#[119, 104, 105, 108, 101, 32]⟩ : ByteArray) ++ A ++ ⟨#[10, 100, 111, 32]⟩ ++ B ++ ⟨#[10, 100, 111, 110, 101]⟩), .string ((⟨#[102, 111, 114, 32, 105, 32, 105, 110, 32, 49, 32, 50, 59, 32, 100, 111, 32]⟩ : ByteArray) ++ A ++ ⟨#[10, 100, 111, 110, 101]⟩), .string ((⟨#[99, 97, 115, 101, 32, 119, 32, 105, 110, 32, 112, 41, 32]⟩ : ByteArray) ++ A ++ ⟨#[10, 59, 59, 32, 101, 115, 97, 99]⟩)] 9)).alloc (.cells #[x0, x1, x2, x3, x4, x5, x6] 28)).alloc (.cells #[x0, x1, x2, x3, x4, x5, x6] 28)).alloc (.cells #[x0, x1, x2, x3, x4, x5, x6, y0, y1, y2, y3, y4, y5, y6] 28)).alloc (.cells #[x0, x1, x2, x3, x4, x5, x6, y0, y1, y2, y3, y4, y5, y6] 28)).alloc (.cells #[.string ⟨#[105]⟩, .string ⟨#[49]⟩, .string ⟨#[50]⟩] 9)).alloc (.cells #[x0, x1, x2, x3, x4, x5, x6] 28)).alloc (.cells #[.string ⟨#[119]⟩] 9)).alloc (.cells #[.string ⟨#[112]⟩] 9)).alloc (.cells #[.slice (some ⟨wc.heap.size + 1 + 1 + 1 + 1 + 1 + 1 + 1 + 1, 0, none⟩) 1 1, x0, x1, x2, x3, x4, x5, x6] 42)).alloc (.cells #[.int .i64 11, .bool false, .slice none 0 0, .slice none 0 0, .slice none 0 0, .slice (some ⟨wc.heap.size + 1, 0, none⟩) 1 1, .slice none 0 0, .int .i64 10, .bool false, .slice none 0 0, .slice none 0 0, .slice none 0 0, .slice (some ⟨wc.heap.size + 1 + 1, 0, none⟩) 1 1, .slice none 0 0, .int .i64 6, .bool false, .slice none 0 0, .slice none 0 0, .slice none 0 0, .slice (some ⟨wc.heap.size + 1 + 1 + 1, 0, none⟩) 2 2, .slice none 0 0, .int .i64 7, .bool false, .slice none 0 0, .slice none 0 0, .slice none 0 0, .slice (some ⟨wc.heap.size + 1 + 1 + 1 + 1, 0, none⟩) 2 2, .slice none 0 0, .int .i64 8, .bool false, .slice none 0 0, .slice (some ⟨wc.heap.size + 1 + 1 + 1 + 1 + 1, 0, none⟩) 3 3, .slice none 0 0, .slice (some ⟨wc.heap.size + 1 + 1 + 1 + 1 + 1 + 1, 0, none⟩) 1 1, .slice none 0 0, .int .i64 9, .bool false, .slice none 0 0, .slice (some ⟨wc.heap.size + 1 + 1 + 1 + 1 + 1 + 1 + 1, 0, none⟩) 1 1, .slice none 0 0, .slice none 0 0, .slice (some ⟨wc.heap.size + 1 + 1 + 1 + 1 + 1 + 1 + 1 + 1 + 1, 0, none⟩) 1 1] 28) = W9
                  have hL := want_lit (F := formsV A B) hX hY W9 hW9
                  obtain ⟨hb9, zF, zV, hC⟩ := hL
                  have HF := hide' (forms_all zF zV hC HTA.out HTB.out)
                  have HS := hide' (hBc.trans (hb9.mono hBc.size))
                  generalize hd : wc.heap.size + 1 + 1 + 1 + 1 + 1 + 1 + 1 + 1 + 1 + 1 = d
                  have hd' : wc.heap.size + 10 = d := by omega
                  rw [hd'] at HF
                  clear hW9 hX hY oA0 oA1 oA2 oA3 oA4 oA5 oA6 oB0 oB1 oB2 oB3 oB4 oB5 oB6 rA rB hb9 zF zV hC hBc HTA HTB hfm sA sB sA0 sB0 hd' HB
                  go_wp2_with fail
                  go_loopw [15] (fun i wr => ∃ j : Nat, j ≤ 6 ∧ i = .int .i64 j ∧ Below W9.heap.size W9 wr) (fun i _ => 6 - (intOf i).toNat)
                  case atStart => exact ⟨0, by omega, rfl, Below.refl _ _⟩
                  case round =>
                    obtain ⟨j, hj, rfl, hR⟩ := hrel
                    by_cases hjl : j < 6
                    · obtain ⟨f, cw, v0, v1, v2, v3, v4, v5, v6, hO, hall⟩ := HF.out j hjl
                      have hx := (hall wr hR).1
                      have hBr : Below w.heap.size w wr := HS.out.trans (hR.mono HS.out.size)
                      have q := parse_form f wr (HG.out.1.below hBr) (HG.out.2.below hBr)
                      have kj : (j : Int) < 6 := by omega
                      have HR := hide' hR
                      have HA := hide' hall
                      have HO := hide' hO
                      clear hR hall hO hBr HF
                      go_wp2_with fail
                      refine q.mono ?_
                      rintro e m2 ⟨hm2, k9, pa, pn, pc, n9, rfl, hok, herr⟩
                      clear q
                      obtain ⟨m3, hm3⟩ : ∃ m3, m3 = m2.alloc (.cells #[.int .i64 k9, .bool false, .slice none 0 0, .slice none 0 0, .slice none 0 0, .slice pa pn pc, .slice none 0 0] 28) := ⟨_, rfl⟩
                      have hb3 : Below m2.heap.size m2 m3 := by rw [hm3]; exact (Below.refl _ _).alloc (Nat.le_refl _) _
                      have zb : m3.heap[m2.heap.size]? = some (.cells #[.int .i64 k9, .bool false, .slice none 0 0, .slice none 0 0, .slice none 0 0, .slice pa pn pc, .slice none 0 0] 28 (0, 0)) := by rw [hm3]; exact heap_alloc_new m2 _
                      have o5 := (cells7 zb).2.2.2.2.2.1
                      have hB3 : Below W9.heap.size W9 m3 := (HR.out.trans (hm2.mono HR.out.size)).trans (hb3.mono (Nat.le_trans HR.out.size hm2.size))
                      have HM3 := hide' hm3
                      have H3 := hide' hB3
                      have Hb3 := hide' hb3
                      clear hm3 hm2 hb3 hB3 zb
                      rcases HO.out with h42 | hok1
                      · have hn9 : n9 = 42 := herr 42 h42
                        subst hn9
                        clear hok herr h42 HO HA HR Hb3
                        dsimp only
                        go_upto_region 27 with fail
                        rw [← HM3.out]
                        go_wp2_with (go_at_call 11; refine (qn _ _).mono ?_; rintro e w' ⟨rfl, rfl⟩)
                        exact ⟨⟨j + 1, by omega, by simp, H3.out⟩, by simp [intOf]; omega⟩
                      · obtain ⟨rfl, rfl, hpn, ks2, hK2⟩ := hok [cw] hok1
                        obtain rfl : pn = 1 := hpn
                        obtain ⟨g2, cap2, k, nt, a1, a2, a3, a4, a5, n1, n2, n3, n4, n5, c1, c2, c3, c4, c5, hkv, hgl, hc, e0, e1, e2, e3, e4, e5, e6⟩ := kid_first hK2
                        cases hkv
                        have hcm := hc.low Hb3.out
                        have hR2 := fun d os => below_regrown m3 d os
                        have hR9 := fun d os => H3.out.trans ((hR2 d os).mono H3.out.size)
                        have p0 := fun d os => cell_regrown ((Hb3.out.cell (p := ⟨g2, 0, none⟩) hgl).trans e0) d os
                        have p1 := fun d os => cell_regrown ((Hb3.out.cell (p := ⟨g2, 1, none⟩) hgl).trans e1) d os
                        have p2 := fun d os => cell_regrown ((Hb3.out.cell (p := ⟨g2, 2, none⟩) hgl).trans e2) d os
                        have p3 := fun d os => cell_regrown ((Hb3.out.cell (p := ⟨g2, 3, none⟩) hgl).trans e3) d os
                        have p4 := fun d os => cell_regrown ((Hb3.out.cell (p := ⟨g2, 4, none⟩) hgl).trans e4) d os
                        have p5 := fun d os => cell_regrown ((Hb3.out.cell (p := ⟨g2, 5, none⟩) hgl).trans e5) d os
                        have p6 := fun d os => cell_regrown ((Hb3.out.cell (p := ⟨g2, 6, none⟩) hgl).trans e6) d os
                        have t0 := fun d os => (HA.out _ (hR9 d os)).2.1.1
                        have t1 := fun d os => (HA.out _ (hR9 d os)).2.1.2.1
                        have t2 := fun d os => (HA.out _ (hR9 d os)).2.1.2.2.1
                        have t3 := fun d os => (HA.out _ (hR9 d os)).2.1.2.2.2.1
                        have t4 := fun d os => (HA.out _ (hR9 d os)).2.1.2.2.2.2.1
                        have t5 := fun d os => (HA.out _ (hR9 d os)).2.1.2.2.2.2.2.1
                        have t6 := fun d os => (HA.out _ (hR9 d os)).2.1.2.2.2.2.2.2
                        have qs := fun d os => same_any (hcm.low (hR2 d os)) (HA.out _ (hR9 d os)).2.2
                        have qm := fun d os => Calls.regrown_of (w := m3) (d := d) (os := os) ((num_any 0 _).mono fun e w' h => ⟨h.1, h.2 ▸ Below.refl _ _⟩)
                        have p5' := fun d os => cell_regrown o5 d os
                        clear hok herr hok1 HO HA HR Hb3 hK2 hc hcm e0 e1 e2 e3 e4 e5 e6 hgl hR2 hR9
                        dsimp only
                        go_upto_region 27 with fail
                        rw [← HM3.out]
                        go_upto_region 28 with (go_at_call 11; refine (qn _ _).mono ?_; rintro e w' ⟨rfl, rfl⟩)
                        clear o5
                        refine wp_region_quiet_below (by kernel_rfl) (by kernel_rfl) ?_
                        repeat (go_big_quiet_step (first | (go_at_call 11; exact qm _ _) | (go_at_call 12; exact Calls.regrown_of (qs _ _))))
                        refine wpQuiet_nil ?_
                        intro w2 hw2
                        have hb2 : Below m3.heap.size m3 w2 := by
                          obtain ⟨p, rfl⟩ := hw2
                          exact below_regrown _ _ _
                        have HJ := hide' (H3.out.trans (hb2.mono H3.out.size))
                        clear hw2 hb2 p0 p1 p2 p3 p4 p5 p6 t0 t1 t2 t3 t4 t5 t6 qs qm p5' H3
                        go_wp2
                        exact ⟨⟨j + 1, by omega, by simp, HJ.out⟩, by simp [intOf]; omega⟩
                    · obtain rfl : j = 6 := by omega
                      have HE := hide' (HS.out.trans (hR.mono HS.out.size))
                      clear HF hR
                      go_wp2_with fail
                      go_ret
                      exact ⟨rfl, HE.out⟩
end Go.Proofs.YtcemlhfodpelaaaGreatDoor
