/- The law RuleSets answers true. -/
import Derived.Test.YtchnimlnoolkiaaGreatDoorAlive
import Derived.Test.YtchnimlnoolkiaaGreatDoorLTakes
import Derived.Test.YtchnimlnoolkiaaGreatDoorSp
namespace Go.Proofs.YtchnimlnoolkiaaGreatDoor
open Go.RowKit Go.Shelf

/-- a row of two texts -/
theorem two_cells (w : World) (a b : Value) : (w.alloc (.cells #[a, b] 9)).cell? ⟨w.heap.size, 0, none⟩ = some a ∧ (w.alloc (.cells #[a, b] 9)).cell? ⟨w.heap.size, 1, none⟩ = some b := by
  constructor <;> (rw [Lib.cell_of_heap (heap_alloc_new w _)]; rfl)
def okN (x : ByteArray) (k : Nat) : Prop := ∀ i, i < k → nmC ((tl x).getD i 0) = true
def okV (x : ByteArray) (k : Nat) : Prop := ∀ i, i < k → (tl x).getD i 0 ≠ 36
theorem nmC_bad {c : UInt8} (h : nmC c = false) : c = 36 ∨ c = 61 ∨ c = 59 ∨ c = 58 ∨ c = 43 ∨ c = 63 ∨ c = 33 ∨ c = 32 ∨ c = 9 ∨ c = 10 := by
  unfold nmC at h
  simp only [Bool.not_eq_false', Bool.or_eq_true, beq_iff_eq, or_assoc] at h
  exact h
theorem cell_alloc {w : World} {p : Addr} {v : Value} (h : w.cell? p = some v) (o : Obj) : (w.alloc o).cell? p = some v := (((Below.refl _ w).alloc (Nat.le_refl _) o).cell (World.block_lt_of_cell? _ _ h)).trans h
theorem ops_cell (w : World) (k : Nat) (hk : k ≤ 5) : (w.alloc (.cells #[.string ⟨#[61]⟩, .string ⟨#[58, 61]⟩, .string ⟨#[58, 58, 61]⟩, .string ⟨#[63, 61]⟩, .string ⟨#[43, 61]⟩, .string ⟨#[33, 61]⟩] 9)).cell? ⟨w.heap.size, k, none⟩ = some (.string (mk (opL k))) := by
  rcases (by omega : k = 0 ∨ k = 1 ∨ k = 2 ∨ k = 3 ∨ k = 4 ∨ k = 5) with rfl | rfl | rfl | rfl | rfl | rfl <;> (rw [Lib.cell_of_heap (heap_alloc_new w _)]; rfl)
theorem sets_cell (w : World) (k : Nat) (hk : k ≤ 5) : (w.alloc (.cells #[.int .i64 1, .int .i64 2, .int .i64 2, .int .i64 3, .int .i64 4, .int .i64 5] 3)).cell? ⟨w.heap.size, k, none⟩ = some (.int .i64 ((setL k : Nat) : Int)) := by
  rcases (by omega : k = 0 ∨ k = 1 ∨ k = 2 ∨ k = 3 ∨ k = 4 ∨ k = 5) with rfl | rfl | rfl | rfl | rfl | rfl <;> (rw [Lib.cell_of_heap (heap_alloc_new w _)]; rfl)
theorem op_len (k : Nat) : (opL k).length ≤ 3 := by
  unfold opL mdL sgL
  rcases (by omega : k = 0 ∨ k = 1 ∨ k = 2 ∨ k = 3 ∨ k = 4 ∨ k = 5 ∨ 6 ≤ k) with rfl | rfl | rfl | rfl | rfl | rfl | h
  · decide
  · decide
  · decide
  · decide
  · decide
  · decide
  · split <;> split <;> first | omega | simp
theorem tl_ap (a b : ByteArray) : tl (a ++ b) = tl a ++ tl b := by simp [tl]
theorem nv_of (x0 x1 : ByteArray) (he : x0.toList.isEmpty = false) (hn : okN x0 x0.size) (hl : Hid (¬ ∃ h : 0 < x1.size, bl x1[0] = true)) : tl x0 ≠ [] ∧ (∀ c ∈ tl x0, nmC c = true) ∧ (tl x1).dropWhile bl = tl x1 := by
  refine ⟨fun h => ?_, fun c hc => ?_, ?_⟩
  · rw [emp_of, h] at he
    cases he
  · obtain ⟨i, hi, rfl⟩ := List.mem_iff_getElem.1 hc
    have := hn i (by rw [← tl_len]; exact hi)
    rw [List.getD_eq_getElem?_getD, List.getElem?_eq_getElem hi] at this
    exact this
  · by_cases h0 : 0 < x1.size
    · have hyc : tl x1 = x1[0] :: (tl x1).drop 1 := by have := drop_at x1 0 h0; rwa [List.drop_zero] at this
      have hb : bl x1[0] = false := by
        cases hb : bl x1[0] with
        | false => rfl
        | true => exact absurd ⟨h0, hb⟩ hl.out
      rw [hyc, List.dropWhile_cons_of_neg (by rw [hb]; decide)]
    · rw [show tl x1 = [] from List.length_eq_zero_iff.1 (by rw [tl_len]; omega)]
      rfl
set_option maxRecDepth 100000 in
set_option maxHeartbeats 8000000 in
theorem lsets_any (x0 x1 : ByteArray) (z : Int) (w : World) : Calls Tryz.prog 5 #[.string x0, .string x1, .int .i64 z] w fun e w' => e = .returned (.bool true) ∧ Below w.heap.size w w' := by
  have k1 := alive_any w
  go_enter Tryz.func5, Tryz.ntmps5
  go_wp2_with (go_at_call 7; refine k1.mono ?_; rintro e w1 ⟨rfl, hb1⟩)
  have HB1 := hide' (hb1.alloc hb1.size (.cells #[.string x0, .string x1] 9))
  have hc := two_cells w1 (.string x0) (.string x1)
  have hlt : w1.heap.size < (w1.alloc (.cells #[.string x0, .string x1] 9)).heap.size := by simp
  generalize hA : w1.heap.size = A at hc hlt
  generalize hW : w1.alloc (.cells #[.string x0, .string x1] 9) = W at hc HB1 hlt
  clear k1 hb1
  go_loop [9] (fun i => i = .int .i64 0 ∨ (i = .int .i64 1 ∧ Hid (x0.size ≤ 500 ∧ okN x0 x0.size)) ∨ (i = .int .i64 2 ∧ Hid (x0.size ≤ 500 ∧ okN x0 x0.size) ∧ Hid (x1.size ≤ 500 ∧ okV x1 x1.size))) (fun i => 2 - (intOf i).toNat)
  case atStart => exact .inl rfl
  case round =>
    obtain ⟨c0, c1⟩ := hc
    have HA := hide' hA
    have HWW := hide' hW
    clear hA hW
    rcases hrel with rfl | ⟨rfl, H0⟩ | ⟨rfl, H0, H1⟩
    · by_cases hs : x0.size ≤ 500
      · have d1 : decide ((500 : Int) < (x0.size : Int)) = false := decide_eq_false (by omega)
        go_wp2
        go_loop [10] (fun i => ∃ k : Nat, k ≤ x0.size ∧ i = .int .i64 k ∧ Hid (okN x0 k)) (fun i => x0.size - (intOf i).toNat)
        case atStart => exact ⟨0, Nat.zero_le _, rfl, fun i hi => absurd hi (Nat.not_lt_zero i)⟩
        case round =>
          obtain ⟨k, hk, rfl, HK⟩ := hrel
          by_cases hlt : k < x0.size
          · have hg := getD_at x0 k hlt
            cases hn : nmC x0[k] with
            | true =>
              have HN : Hid (okN x0 (k + 1)) := fun i hi => by
                by_cases e : i = k
                · subst e; rw [hg]; exact hn
                · exact HK.out i (by omega)
              obtain ⟨n1, n2, n3, n4, n5, n6, n7, n8⟩ := nmC_no hn
              obtain ⟨n9, n10, n11⟩ := bl_no _ n8
              have e1 : ((x0[k].toNat : Int) == 36) = false := beq_no _ 36 36 rfl n1
              have e2 : ((x0[k].toNat : Int) == 61) = false := beq_no _ 61 61 rfl n2
              have e3 : ((x0[k].toNat : Int) == 59) = false := beq_no _ 59 59 rfl n3
              have e4 : ((x0[k].toNat : Int) == 58) = false := beq_no _ 58 58 rfl n4
              have e5 : ((x0[k].toNat : Int) == 43) = false := beq_no _ 43 43 rfl n5
              have e6 : ((x0[k].toNat : Int) == 63) = false := beq_no _ 63 63 rfl n6
              have e7 : ((x0[k].toNat : Int) == 33) = false := beq_no _ 33 33 rfl n7
              have e8 : ((x0[k].toNat : Int) == 32) = false := beq_eq_false_iff_ne.2 (by omega)
              have e9 : ((x0[k].toNat : Int) == 9) = false := beq_eq_false_iff_ne.2 (by omega)
              have e10 : ((x0[k].toNat : Int) == 10) = false := beq_eq_false_iff_ne.2 (by omega)
              clear n1 n2 n3 n4 n5 n6 n7 n8 n9 n10 n11 hg hn HK
              go_wp2
              exact ⟨⟨k + 1, by omega, by go_num, HN⟩, by simp [intOf]; omega⟩
            | false =>
              have hb := nmC_bad hn
              clear hg hn HK
              rcases hb with h | h | h | h | h | h | h | h | h | h
              · have hv : (x0[k].toNat : Int) = 36 := by rw [h]; rfl
                clear h
                go_wp2
                go_ret
                exact ⟨rfl, HB1.out⟩
              · have hv : (x0[k].toNat : Int) = 61 := by rw [h]; rfl
                clear h
                go_wp2
                go_ret
                exact ⟨rfl, HB1.out⟩
              · have hv : (x0[k].toNat : Int) = 59 := by rw [h]; rfl
                clear h
                go_wp2
                go_ret
                exact ⟨rfl, HB1.out⟩
              · have hv : (x0[k].toNat : Int) = 58 := by rw [h]; rfl
                clear h
                go_wp2
                go_ret
                exact ⟨rfl, HB1.out⟩
              · have hv : (x0[k].toNat : Int) = 43 := by rw [h]; rfl
                clear h
                go_wp2
                go_ret
                exact ⟨rfl, HB1.out⟩
              · have hv : (x0[k].toNat : Int) = 63 := by rw [h]; rfl
                clear h
                go_wp2
                go_ret
                exact ⟨rfl, HB1.out⟩
              · have hv : (x0[k].toNat : Int) = 33 := by rw [h]; rfl
                clear h
                go_wp2
                go_ret
                exact ⟨rfl, HB1.out⟩
              · have hv : (x0[k].toNat : Int) = 32 := by rw [h]; rfl
                clear h
                go_wp2
                go_ret
                exact ⟨rfl, HB1.out⟩
              · have hv : (x0[k].toNat : Int) = 9 := by rw [h]; rfl
                clear h
                go_wp2
                go_ret
                exact ⟨rfl, HB1.out⟩
              · have hv : (x0[k].toNat : Int) = 10 := by rw [h]; rfl
                clear h
                go_wp2
                go_ret
                exact ⟨rfl, HB1.out⟩
          · obtain rfl : k = x0.size := by omega
            have HN : Hid (x0.size ≤ 500 ∧ okN x0 x0.size) := ⟨hs, HK.out⟩
            clear HK
            go_wp2
            exact ⟨.inr (.inl ⟨rfl, HN⟩), by simp [intOf]⟩
      · have d1 : decide ((500 : Int) < (x0.size : Int)) = true := decide_eq_true (by omega)
        go_wp2
        go_ret
        exact ⟨rfl, HB1.out⟩
    · by_cases hs : x1.size ≤ 500
      · have d1 : decide ((500 : Int) < (x1.size : Int)) = false := decide_eq_false (by omega)
        go_wp2
        go_loop [10] (fun i => ∃ k : Nat, k ≤ x1.size ∧ i = .int .i64 k ∧ Hid (okV x1 k)) (fun i => x1.size - (intOf i).toNat)
        case atStart => exact ⟨0, Nat.zero_le _, rfl, fun i hi => absurd hi (Nat.not_lt_zero i)⟩
        case round =>
          obtain ⟨k, hk, rfl, HK⟩ := hrel
          by_cases hlt : k < x1.size
          · have hg := getD_at x1 k hlt
            by_cases hn : x1[k] = 36
            · have h := hn
              clear hg hn HK
              have hv : (x1[k].toNat : Int) = 36 := by rw [h]; rfl
              clear h
              go_wp2
              go_ret
              exact ⟨rfl, HB1.out⟩
            · have HN : Hid (okV x1 (k + 1)) := fun i hi => by
                by_cases e : i = k
                · subst e; rw [hg]; exact hn
                · exact HK.out i (by omega)
              have e1 : ((x1[k].toNat : Int) == 36) = false := beq_no _ 36 36 rfl hn
              clear hg hn HK
              go_wp2
              exact ⟨⟨k + 1, by omega, by go_num, HN⟩, by simp [intOf]; omega⟩
          · obtain rfl : k = x1.size := by omega
            have HN : Hid (x1.size ≤ 500 ∧ okV x1 x1.size) := ⟨hs, HK.out⟩
            clear HK
            go_wp2
            exact ⟨.inr (.inr ⟨rfl, H0, HN⟩), by simp [intOf]⟩
      · have d1 : decide ((500 : Int) < (x1.size : Int)) = true := decide_eq_true (by omega)
        go_wp2
        go_ret
        exact ⟨rfl, HB1.out⟩
    · obtain ⟨hs0, hn⟩ := H0.out
      obtain ⟨hs1, _⟩ := H1.out
      have hlead : (∃ h : 0 < x1.size, bl x1[0] = true) ∨ ¬ (∃ h : 0 < x1.size, bl x1[0] = true) := Classical.em _
      clear c0 c1
      by_cases hz0 : z < 0
      · have d1 : decide (z < 0) = true := decide_eq_true hz0
        go_wp2
        go_ret
        exact ⟨rfl, HB1.out⟩
      · have d1 : decide (z < 0) = false := decide_eq_false hz0
        by_cases hz5 : 5 < z
        · have d2 : decide (5 < z) = true := decide_eq_true hz5
          go_wp2
          go_ret
          exact ⟨rfl, HB1.out⟩
        · have d2 : decide (5 < z) = false := decide_eq_false hz5
          cases hne : (tl x0).isEmpty with
          | true =>
            have he : x0.toList.isEmpty = true := by rw [emp_of]; exact hne
            clear hne
            go_wp2
            go_ret
            exact ⟨rfl, HB1.out⟩
          | false =>
            have he : x0.toList.isEmpty = false := by rw [emp_of]; exact hne
            rcases hlead with ⟨h0, hb⟩ | hlead
            · have hh := bl_yes _ hb
              have d3 : decide ((0 : Int) < (x1.size : Int)) = true := decide_eq_true (by omega)
              clear hne hb
              rcases hh with h | h | h
              · have hq : (x1[0].toNat : Int) = 32 := by rw [h]; rfl
                clear h
                go_wp2
                go_ret
                exact ⟨rfl, HB1.out⟩
              · have hq : (x1[0].toNat : Int) = 9 := by rw [h]; rfl
                clear h
                go_wp2
                go_ret
                exact ⟨rfl, HB1.out⟩
              · have hq : (x1[0].toNat : Int) = 10 := by rw [h]; rfl
                clear h
                go_wp2
                go_ret
                exact ⟨rfl, HB1.out⟩
            · have hlead' := hide' hlead
              have hd : (¬ 0 < x1.size) ∨ (∃ h : 0 < x1.size, ((x1[0].toNat : Int) == 32) = false ∧ ((x1[0].toNat : Int) == 9) = false ∧ ((x1[0].toNat : Int) == 10) = false) := by
                by_cases h0 : 0 < x1.size
                · refine .inr ⟨h0, ?_⟩
                  have hb : bl x1[0] = false := by
                    cases hb : bl x1[0] with
                    | false => rfl
                    | true => exact absurd ⟨h0, hb⟩ hlead
                  have := bl_no _ hb
                  exact ⟨beq_eq_false_iff_ne.2 (by omega), beq_eq_false_iff_ne.2 (by omega), beq_eq_false_iff_ne.2 (by omega)⟩
                · exact .inl h0
              obtain ⟨k, hk⟩ : ∃ k : Nat, z = (k : Int) := ⟨z.toNat, by omega⟩
              subst hk
              have hk5 : k ≤ 5 := by omega
              rcases hd with hd | ⟨hd, e1, e2, e3⟩
              · have d3 : decide ((0 : Int) < (x1.size : Int)) = false := decide_eq_false (by omega)
                go_upto_region 16 with fail
                clear d3 hd
                have hbw2 := HB1.out.alloc HB1.out.size (.cells #[.string ⟨#[61]⟩, .string ⟨#[58, 61]⟩, .string ⟨#[58, 58, 61]⟩, .string ⟨#[63, 61]⟩, .string ⟨#[43, 61]⟩, .string ⟨#[33, 61]⟩] 9)
                have HB2 := hide' (hbw2.alloc hbw2.size (.cells #[.int .i64 1, .int .i64 2, .int .i64 2, .int .i64 3, .int .i64 4, .int .i64 5] 3))
                have hco := ops_cell W k hk5
                have hcs := sets_cell (W.alloc (.cells #[.string ⟨#[61]⟩, .string ⟨#[58, 61]⟩, .string ⟨#[58, 58, 61]⟩, .string ⟨#[63, 61]⟩, .string ⟨#[43, 61]⟩, .string ⟨#[33, 61]⟩] 9)) k hk5
                have hcc2 := cell_alloc hco (.cells #[.int .i64 1, .int .i64 2, .int .i64 2, .int .i64 3, .int .i64 4, .int .i64 5] 3)
                have hB0 : W.heap.size < ((W.alloc (.cells #[.string ⟨#[61]⟩, .string ⟨#[58, 61]⟩, .string ⟨#[58, 58, 61]⟩, .string ⟨#[63, 61]⟩, .string ⟨#[43, 61]⟩, .string ⟨#[33, 61]⟩] 9)).alloc (.cells #[.int .i64 1, .int .i64 2, .int .i64 2, .int .i64 3, .int .i64 4, .int .i64 5] 3)).heap.size := by simp; omega
                have hD0 : (W.alloc (.cells #[.string ⟨#[61]⟩, .string ⟨#[58, 61]⟩, .string ⟨#[58, 58, 61]⟩, .string ⟨#[63, 61]⟩, .string ⟨#[43, 61]⟩, .string ⟨#[33, 61]⟩] 9)).heap.size < ((W.alloc (.cells #[.string ⟨#[61]⟩, .string ⟨#[58, 61]⟩, .string ⟨#[58, 58, 61]⟩, .string ⟨#[63, 61]⟩, .string ⟨#[43, 61]⟩, .string ⟨#[33, 61]⟩] 9)).alloc (.cells #[.int .i64 1, .int .i64 2, .int .i64 2, .int .i64 3, .int .i64 4, .int .i64 5] 3)).heap.size := by simp
                have eD : (W.alloc (.cells #[.string ⟨#[61]⟩, .string ⟨#[58, 61]⟩, .string ⟨#[58, 58, 61]⟩, .string ⟨#[63, 61]⟩, .string ⟨#[43, 61]⟩, .string ⟨#[33, 61]⟩] 9)).heap.size = W.heap.size + 1 := by simp
                rw [eD] at hcs hD0
                obtain ⟨o, ho⟩ : ∃ o, o = mk (opL k) := ⟨_, rfl⟩
                obtain ⟨sv, hsv⟩ : ∃ sv : Int, sv = ((setL k : Nat) : Int) := ⟨_, rfl⟩
                rw [← ho] at hcc2
                rw [← hsv] at hcs
                have hot : tl o = mdL k ++ sgL k := by rw [ho, tl_mk]; rfl
                have hos : o.size ≤ 3 := by rw [ho, mk_size]; exact op_len k
                have HCC2 := hide' hcc2
                have HCS := hide' hcs
                have HO := hide' hot
                have HSV := hide' hsv
                clear hcc2 hcs hco hot ho hsv hbw2 hne d1 d2 hlead eD
                go_upto_region 18 with fail
                generalize hW2 : (W.alloc (.cells #[.string ⟨#[61]⟩, .string ⟨#[58, 61]⟩, .string ⟨#[58, 58, 61]⟩, .string ⟨#[63, 61]⟩, .string ⟨#[43, 61]⟩, .string ⟨#[33, 61]⟩] 9)).alloc (.cells #[.int .i64 1, .int .i64 2, .int .i64 2, .int .i64 3, .int .i64 4, .int .i64 5] 3) = W2 at HB2 HCC2 HCS hB0 hD0 ⊢
                generalize hBn : W.heap.size = B at HCC2 HCS hB0 hD0 ⊢
                have hcc2 := HCC2.out
                have hk6 : k < 6 := by omega
                have HWn := hide' hW2
                have HBn := hide' hBn
                clear hW2 hBn
                obtain ⟨Y1, y1⟩ : ∃ Y1, x0 ++ (⟨#[32]⟩ : ByteArray) = Y1 := ⟨_, rfl⟩
                obtain ⟨Y2, y2⟩ : ∃ Y2, Y1 ++ o = Y2 := ⟨_, rfl⟩
                obtain ⟨Y3, y3⟩ : ∃ Y3, Y2 ++ (⟨#[32, 32]⟩ : ByteArray) = Y3 := ⟨_, rfl⟩
                obtain ⟨Y4, y4⟩ : ∃ Y4, Y3 ++ x1 = Y4 := ⟨_, rfl⟩
                have s1 : (⟨#[32]⟩ : ByteArray).size = 1 := rfl
                have s2 : (⟨#[32, 32]⟩ : ByteArray).size = 2 := rfl
                have s6 : (⟨#[116, 32, 117, 32, 58, 32]⟩ : ByteArray).size = 6 := rfl
                have zY1 : Y1.size = x0.size + 1 := by rw [← y1, ByteArray.size_append, s1]
                have zY2 : Y2.size = x0.size + 1 + o.size := by rw [← y2, ByteArray.size_append, zY1]
                have zY3 : Y3.size = x0.size + 1 + o.size + 2 := by rw [← y3, ByteArray.size_append, zY2, s2]
                have zY4 : Y4.size = x0.size + 1 + o.size + 2 + x1.size := by rw [← y4, ByteArray.size_append, zY3]
                obtain ⟨Z1, u1⟩ : ∃ Z1, x0 ++ o = Z1 := ⟨_, rfl⟩
                obtain ⟨Z2, u2⟩ : ∃ Z2, Z1 ++ x1 = Z2 := ⟨_, rfl⟩
                have zZ1 : Z1.size = x0.size + o.size := by rw [← u1, ByteArray.size_append]
                have zZ2 : Z2.size = x0.size + o.size + x1.size := by rw [← u2, ByteArray.size_append, zZ1]
                obtain ⟨V1, v1⟩ : ∃ V1, (⟨#[116, 32, 117, 32, 58, 32]⟩ : ByteArray) ++ x0 = V1 := ⟨_, rfl⟩
                obtain ⟨V2, v2⟩ : ∃ V2, V1 ++ (⟨#[32]⟩ : ByteArray) = V2 := ⟨_, rfl⟩
                obtain ⟨V3, v3⟩ : ∃ V3, V2 ++ o = V3 := ⟨_, rfl⟩
                obtain ⟨V4, v4⟩ : ∃ V4, V3 ++ (⟨#[32]⟩ : ByteArray) = V4 := ⟨_, rfl⟩
                obtain ⟨V5, v5⟩ : ∃ V5, V4 ++ x1 = V5 := ⟨_, rfl⟩
                have zV1 : V1.size = 6 + x0.size := by rw [← v1, ByteArray.size_append, s6]
                have zV2 : V2.size = 6 + x0.size + 1 := by rw [← v2, ByteArray.size_append, zV1, s1]
                have zV3 : V3.size = 6 + x0.size + 1 + o.size := by rw [← v3, ByteArray.size_append, zV2]
                have zV4 : V4.size = 6 + x0.size + 1 + o.size + 1 := by rw [← v4, ByteArray.size_append, zV3, s1]
                have zV5 : V5.size = 6 + x0.size + 1 + o.size + 1 + x1.size := by rw [← v5, ByteArray.size_append, zV4]
                have a1 : x0.size + (⟨#[32]⟩ : ByteArray).size ≤ 1000000 := by omega
                have a2 : Y1.size + o.size ≤ 1000000 := by omega
                have a3 : Y2.size + (⟨#[32, 32]⟩ : ByteArray).size ≤ 1000000 := by omega
                have a4 : Y3.size + x1.size ≤ 1000000 := by omega
                have b1 : x0.size + o.size ≤ 1000000 := by omega
                have b2 : Z1.size + x1.size ≤ 1000000 := by omega
                have c1 : (⟨#[116, 32, 117, 32, 58, 32]⟩ : ByteArray).size + x0.size ≤ 1000000 := by omega
                have c2 : V1.size + (⟨#[32]⟩ : ByteArray).size ≤ 1000000 := by omega
                have c3 : V2.size + o.size ≤ 1000000 := by omega
                have c4 : V3.size + (⟨#[32]⟩ : ByteArray).size ≤ 1000000 := by omega
                have c5 : V4.size + x1.size ≤ 1000000 := by omega
                obtain ⟨hNe, hNc, hVd⟩ := nv_of x0 x1 he hn hlead'
                have tY : takeB Y4 = ⟨1, x0, x1, ⟨#[]⟩, ⟨#[]⟩, sv, false, false⟩ := by
                  have := take_set (tl x0) [32] [32, 32] (tl x1) k hk5 hNe hNc (by decide) (by decide) hVd Y4 (by rw [← y4, ← y3, ← y2, ← y1, tl_ap, tl_ap, tl_ap, tl_ap, HO.out]; simp [tl])
                  rw [mk_tl, mk_tl, ← HSV.out] at this
                  exact this
                have tZ : takeB Z2 = ⟨1, x0, x1, ⟨#[]⟩, ⟨#[]⟩, sv, false, false⟩ := by
                  have := take_set (tl x0) [] [] (tl x1) k hk5 hNe hNc (by simp) (by simp) hVd Z2 (by rw [← u2, ← u1, tl_ap, tl_ap, HO.out]; simp)
                  rw [mk_tl, mk_tl, ← HSV.out] at this
                  exact this
                have tV : takeB V5 = ⟨3, ⟨#[116, 32, 117, 32]⟩, x1, x0, ⟨#[]⟩, sv, false, false⟩ := by
                  have := take_scoped [116, 32, 117, 32] (tl x0) [32] [32] [32] (tl x1) k hk5 (by decide) (by simp) hNe hNc (by decide) (by decide) (by decide) hVd V5 (by rw [← v5, ← v4, ← v3, ← v2, ← v1, tl_ap, tl_ap, tl_ap, tl_ap, tl_ap, HO.out]; simp [tl])
                  rw [mk_tl, mk_tl, ← HSV.out] at this
                  exact this
                have kY := fun w => take_any Y4 (by omega) w
                have kZ := fun w => take_any Z2 (by omega) w
                have kV := fun w => take_any V5 (by omega) w
                rw [tY] at kY
                rw [tZ] at kZ
                rw [tV] at kV
                simp only [hv] at kY kZ kV
                clear tY tZ tV zY1 zY2 zY3 zY4 zZ1 zZ2 zV1 zV2 zV3 zV4 zV5 s1 s2 s6 hn hNe hNc hVd
                go_upto_region 19 with (go_at_call 8; refine (kY _).mono ?_; rintro e w3 ⟨rfl, hb3⟩)
                have hyA := bx8_at w3 1 x0 x1 ⟨#[]⟩ ⟨#[]⟩ sv false false
                have hB3 := HB2.out.trans (hb3.mono HB2.out.size)
                have hB4 := hB3.alloc hB3.size (.cells #[.int .i64 1, .string x0, .string x1, .string ⟨#[]⟩, .string ⟨#[]⟩, .int .i64 sv, .bool false, .bool false] 24)
                have hcA := cell_alloc ((hb3.cell (p := ⟨B, k, none⟩) hB0).trans HCC2.out) (.cells #[.int .i64 1, .string x0, .string x1, .string ⟨#[]⟩, .string ⟨#[]⟩, .int .i64 sv, .bool false, .bool false] 24)
                have hsA := cell_alloc ((hb3.cell (p := ⟨B + 1, k, none⟩) hD0).trans HCS.out) (.cells #[.int .i64 1, .string x0, .string x1, .string ⟨#[]⟩, .string ⟨#[]⟩, .int .i64 sv, .bool false, .bool false] 24)
                have hlA : W2.heap.size < (w3.alloc (.cells #[.int .i64 1, .string x0, .string x1, .string ⟨#[]⟩, .string ⟨#[]⟩, .int .i64 sv, .bool false, .bool false] 24)).heap.size := by have := hb3.size; simp; omega
                generalize hPA : w3.heap.size = PA at hyA ⊢
                generalize hWA : w3.alloc (.cells #[.int .i64 1, .string x0, .string x1, .string ⟨#[]⟩, .string ⟨#[]⟩, .int .i64 sv, .bool false, .bool false] 24) = WA at hyA hB4 hcA hsA hlA ⊢
                have HPA := hide' hPA
                have HWA := hide' hWA
                have HSA := hide' hsA
                clear hPA hWA hsA hb3 hB3 hcc2 kY y1 y2 y3 y4 a1 a2 a3 a4
                go_upto_region 20 with (go_at_call 8; refine (kZ _).mono ?_; rintro e w4 ⟨rfl, hb4⟩)
                have hyA4 := (hyA.below hb4).alloc (.cells #[.int .i64 1, .string x0, .string x1, .string ⟨#[]⟩, .string ⟨#[]⟩, .int .i64 sv, .bool false, .bool false] 24)
                have hyB := bx8_at w4 1 x0 x1 ⟨#[]⟩ ⟨#[]⟩ sv false false
                have hB5 := hB4.trans (hb4.mono hB4.size)
                have hB6 := hB5.alloc hB5.size (.cells #[.int .i64 1, .string x0, .string x1, .string ⟨#[]⟩, .string ⟨#[]⟩, .int .i64 sv, .bool false, .bool false] 24)
                have hcB := cell_alloc ((hb4.cell (p := ⟨B, k, none⟩) (Nat.lt_trans hB0 hlA)).trans hcA) (.cells #[.int .i64 1, .string x0, .string x1, .string ⟨#[]⟩, .string ⟨#[]⟩, .int .i64 sv, .bool false, .bool false] 24)
                have hsB := cell_alloc ((hb4.cell (p := ⟨B + 1, k, none⟩) (Nat.lt_trans hD0 hlA)).trans HSA.out) (.cells #[.int .i64 1, .string x0, .string x1, .string ⟨#[]⟩, .string ⟨#[]⟩, .int .i64 sv, .bool false, .bool false] 24)
                have hlB : W2.heap.size < (w4.alloc (.cells #[.int .i64 1, .string x0, .string x1, .string ⟨#[]⟩, .string ⟨#[]⟩, .int .i64 sv, .bool false, .bool false] 24)).heap.size := by have := hb4.size; simp; omega
                generalize hPB : w4.heap.size = PB at hyB ⊢
                generalize hWB : w4.alloc (.cells #[.int .i64 1, .string x0, .string x1, .string ⟨#[]⟩, .string ⟨#[]⟩, .int .i64 sv, .bool false, .bool false] 24) = WB at hyA4 hyB hB6 hcB hsB hlB ⊢
                have HPB := hide' hPB
                have HWB := hide' hWB
                have HSB := hide' hsB
                clear hPB hWB hsB hb4 hB5 hB4 hcA kZ u1 u2 b1 b2 hyA
                go_upto_region 21 with (go_at_call 8; refine (kV _).mono ?_; rintro e w5 ⟨rfl, hb5⟩)
                have hyA5 := (hyA4.below hb5).alloc (.cells #[.int .i64 3, .string ⟨#[116, 32, 117, 32]⟩, .string x1, .string x0, .string ⟨#[]⟩, .int .i64 sv, .bool false, .bool false] 24)
                have hyB5 := (hyB.below hb5).alloc (.cells #[.int .i64 3, .string ⟨#[116, 32, 117, 32]⟩, .string x1, .string x0, .string ⟨#[]⟩, .int .i64 sv, .bool false, .bool false] 24)
                have hyC := bx8_at w5 3 ⟨#[116, 32, 117, 32]⟩ x1 x0 ⟨#[]⟩ sv false false
                have hB7 := hB6.trans (hb5.mono hB6.size)
                have hB8 := hB7.alloc hB7.size (.cells #[.int .i64 3, .string ⟨#[116, 32, 117, 32]⟩, .string x1, .string x0, .string ⟨#[]⟩, .int .i64 sv, .bool false, .bool false] 24)
                have hsC := cell_alloc ((hb5.cell (p := ⟨B + 1, k, none⟩) (Nat.lt_trans hD0 hlB)).trans HSB.out) (.cells #[.int .i64 3, .string ⟨#[116, 32, 117, 32]⟩, .string x1, .string x0, .string ⟨#[]⟩, .int .i64 sv, .bool false, .bool false] 24)
                have hlC : W2.heap.size < (w5.alloc (.cells #[.int .i64 3, .string ⟨#[116, 32, 117, 32]⟩, .string x1, .string x0, .string ⟨#[]⟩, .int .i64 sv, .bool false, .bool false] 24)).heap.size := by have := hb5.size; simp; omega
                generalize hPC : w5.heap.size = PC at hyC ⊢
                generalize hWC : w5.alloc (.cells #[.int .i64 3, .string ⟨#[116, 32, 117, 32]⟩, .string x1, .string x0, .string ⟨#[]⟩, .int .i64 sv, .bool false, .bool false] 24) = WC at hyA5 hyB5 hyC hB8 hsC hlC ⊢
                have HPC := hide' hPC
                have HWC := hide' hWC
                clear hPC hWC hb5 hB7 hB6 hcB kV v1 v2 v3 v4 v5 c1 c2 c3 c4 c5 hyA4 hyB
                go_upto_region 22 with fail
                have hyA6 := hyA5.alloc (.cells #[.int .i64 1, .string x0, .string x1, .string ⟨#[]⟩, .string ⟨#[]⟩, .int .i64 sv, .bool false, .bool false] 24)
                have hyB6 := hyB5.alloc (.cells #[.int .i64 1, .string x0, .string x1, .string ⟨#[]⟩, .string ⟨#[]⟩, .int .i64 sv, .bool false, .bool false] 24)
                have hyC6 := hyC.alloc (.cells #[.int .i64 1, .string x0, .string x1, .string ⟨#[]⟩, .string ⟨#[]⟩, .int .i64 sv, .bool false, .bool false] 24)
                have hyD := bx8_at WC 1 x0 x1 ⟨#[]⟩ ⟨#[]⟩ sv false false
                have hsD := cell_alloc hsC (.cells #[.int .i64 1, .string x0, .string x1, .string ⟨#[]⟩, .string ⟨#[]⟩, .int .i64 sv, .bool false, .bool false] 24)
                have hB9 := hB8.alloc hB8.size (.cells #[.int .i64 1, .string x0, .string x1, .string ⟨#[]⟩, .string ⟨#[]⟩, .int .i64 sv, .bool false, .bool false] 24)
                generalize hPD : WC.heap.size = PD at hyD ⊢
                generalize hWD : WC.alloc (.cells #[.int .i64 1, .string x0, .string x1, .string ⟨#[]⟩, .string ⟨#[]⟩, .int .i64 sv, .bool false, .bool false] 24) = WD at hyA6 hyB6 hyC6 hyD hB9 hsD ⊢
                have HPD := hide' hPD
                have HWD := hide' hWD
                have HB9 := hide' hB9
                have hE1 := hd_eq 1 x0 x1 ⟨#[]⟩ ⟨#[]⟩ sv false false
                have hE3 := hd_eq 3 ⟨#[116, 32, 117, 32]⟩ x1 x0 ⟨#[]⟩ sv false false
                have ac0 := hyA6.c0
                have af0 := hyA6.fz 0
                have ac1 := hyA6.c1
                have af1 := hyA6.fz 1
                have ac2 := hyA6.c2
                have af2 := hyA6.fz 2
                have ac3 := hyA6.c3
                have af3 := hyA6.fz 3
                have ac4 := hyA6.c4
                have af4 := hyA6.fz 4
                have ac5 := hyA6.c5
                have af5 := hyA6.fz 5
                have ac6 := hyA6.c6
                have af6 := hyA6.fz 6
                have ac7 := hyA6.c7
                have af7 := hyA6.fz 7
                have bc0 := hyB6.c0
                have bf0 := hyB6.fz 0
                have bc1 := hyB6.c1
                have bf1 := hyB6.fz 1
                have bc2 := hyB6.c2
                have bf2 := hyB6.fz 2
                have bc3 := hyB6.c3
                have bf3 := hyB6.fz 3
                have bc4 := hyB6.c4
                have bf4 := hyB6.fz 4
                have bc5 := hyB6.c5
                have bf5 := hyB6.fz 5
                have bc6 := hyB6.c6
                have bf6 := hyB6.fz 6
                have bc7 := hyB6.c7
                have bf7 := hyB6.fz 7
                have cc0 := hyC6.c0
                have cf0 := hyC6.fz 0
                have cc1 := hyC6.c1
                have cf1 := hyC6.fz 1
                have cc2 := hyC6.c2
                have cf2 := hyC6.fz 2
                have cc3 := hyC6.c3
                have cf3 := hyC6.fz 3
                have cc4 := hyC6.c4
                have cf4 := hyC6.fz 4
                have cc5 := hyC6.c5
                have cf5 := hyC6.fz 5
                have cc6 := hyC6.c6
                have cf6 := hyC6.fz 6
                have cc7 := hyC6.c7
                have cf7 := hyC6.fz 7
                have dc0 := hyD.c0
                have df0 := hyD.fz 0
                have dc1 := hyD.c1
                have df1 := hyD.fz 1
                have dc2 := hyD.c2
                have df2 := hyD.fz 2
                have dc3 := hyD.c3
                have df3 := hyD.fz 3
                have dc4 := hyD.c4
                have df4 := hyD.fz 4
                have dc5 := hyD.c5
                have df5 := hyD.fz 5
                have dc6 := hyD.c6
                have df6 := hyD.fz 6
                have dc7 := hyD.c7
                have df7 := hyD.fz 7
                clear hPD hWD hB8 hB9 hsC hyA5 hyB5 hyC hyA6 hyB6 hyC6 hyD
                go_region
                go_wp2
                go_ret
                exact ⟨rfl, HB9.out.os, HB9.out.tape, HB9.out.output, HB9.out.size, HB9.out.block⟩
              · have d3 : decide ((0 : Int) < (x1.size : Int)) = true := decide_eq_true (by omega)
                go_upto_region 16 with fail
                clear d3 e1 e2 e3
                have hbw2 := HB1.out.alloc HB1.out.size (.cells #[.string ⟨#[61]⟩, .string ⟨#[58, 61]⟩, .string ⟨#[58, 58, 61]⟩, .string ⟨#[63, 61]⟩, .string ⟨#[43, 61]⟩, .string ⟨#[33, 61]⟩] 9)
                have HB2 := hide' (hbw2.alloc hbw2.size (.cells #[.int .i64 1, .int .i64 2, .int .i64 2, .int .i64 3, .int .i64 4, .int .i64 5] 3))
                have hco := ops_cell W k hk5
                have hcs := sets_cell (W.alloc (.cells #[.string ⟨#[61]⟩, .string ⟨#[58, 61]⟩, .string ⟨#[58, 58, 61]⟩, .string ⟨#[63, 61]⟩, .string ⟨#[43, 61]⟩, .string ⟨#[33, 61]⟩] 9)) k hk5
                have hcc2 := cell_alloc hco (.cells #[.int .i64 1, .int .i64 2, .int .i64 2, .int .i64 3, .int .i64 4, .int .i64 5] 3)
                have hB0 : W.heap.size < ((W.alloc (.cells #[.string ⟨#[61]⟩, .string ⟨#[58, 61]⟩, .string ⟨#[58, 58, 61]⟩, .string ⟨#[63, 61]⟩, .string ⟨#[43, 61]⟩, .string ⟨#[33, 61]⟩] 9)).alloc (.cells #[.int .i64 1, .int .i64 2, .int .i64 2, .int .i64 3, .int .i64 4, .int .i64 5] 3)).heap.size := by simp; omega
                have hD0 : (W.alloc (.cells #[.string ⟨#[61]⟩, .string ⟨#[58, 61]⟩, .string ⟨#[58, 58, 61]⟩, .string ⟨#[63, 61]⟩, .string ⟨#[43, 61]⟩, .string ⟨#[33, 61]⟩] 9)).heap.size < ((W.alloc (.cells #[.string ⟨#[61]⟩, .string ⟨#[58, 61]⟩, .string ⟨#[58, 58, 61]⟩, .string ⟨#[63, 61]⟩, .string ⟨#[43, 61]⟩, .string ⟨#[33, 61]⟩] 9)).alloc (.cells #[.int .i64 1, .int .i64 2, .int .i64 2, .int .i64 3, .int .i64 4, .int .i64 5] 3)).heap.size := by simp
                have eD : (W.alloc (.cells #[.string ⟨#[61]⟩, .string ⟨#[58, 61]⟩, .string ⟨#[58, 58, 61]⟩, .string ⟨#[63, 61]⟩, .string ⟨#[43, 61]⟩, .string ⟨#[33, 61]⟩] 9)).heap.size = W.heap.size + 1 := by simp
                rw [eD] at hcs hD0
                obtain ⟨o, ho⟩ : ∃ o, o = mk (opL k) := ⟨_, rfl⟩
                obtain ⟨sv, hsv⟩ : ∃ sv : Int, sv = ((setL k : Nat) : Int) := ⟨_, rfl⟩
                rw [← ho] at hcc2
                rw [← hsv] at hcs
                have hot : tl o = mdL k ++ sgL k := by rw [ho, tl_mk]; rfl
                have hos : o.size ≤ 3 := by rw [ho, mk_size]; exact op_len k
                have HCC2 := hide' hcc2
                have HCS := hide' hcs
                have HO := hide' hot
                have HSV := hide' hsv
                clear hcc2 hcs hco hot ho hsv hbw2 hne d1 d2 hlead eD
                go_upto_region 18 with fail
                generalize hW2 : (W.alloc (.cells #[.string ⟨#[61]⟩, .string ⟨#[58, 61]⟩, .string ⟨#[58, 58, 61]⟩, .string ⟨#[63, 61]⟩, .string ⟨#[43, 61]⟩, .string ⟨#[33, 61]⟩] 9)).alloc (.cells #[.int .i64 1, .int .i64 2, .int .i64 2, .int .i64 3, .int .i64 4, .int .i64 5] 3) = W2 at HB2 HCC2 HCS hB0 hD0 ⊢
                generalize hBn : W.heap.size = B at HCC2 HCS hB0 hD0 ⊢
                have hcc2 := HCC2.out
                have hk6 : k < 6 := by omega
                have HWn := hide' hW2
                have HBn := hide' hBn
                clear hW2 hBn
                obtain ⟨Y1, y1⟩ : ∃ Y1, x0 ++ (⟨#[32]⟩ : ByteArray) = Y1 := ⟨_, rfl⟩
                obtain ⟨Y2, y2⟩ : ∃ Y2, Y1 ++ o = Y2 := ⟨_, rfl⟩
                obtain ⟨Y3, y3⟩ : ∃ Y3, Y2 ++ (⟨#[32, 32]⟩ : ByteArray) = Y3 := ⟨_, rfl⟩
                obtain ⟨Y4, y4⟩ : ∃ Y4, Y3 ++ x1 = Y4 := ⟨_, rfl⟩
                have s1 : (⟨#[32]⟩ : ByteArray).size = 1 := rfl
                have s2 : (⟨#[32, 32]⟩ : ByteArray).size = 2 := rfl
                have s6 : (⟨#[116, 32, 117, 32, 58, 32]⟩ : ByteArray).size = 6 := rfl
                have zY1 : Y1.size = x0.size + 1 := by rw [← y1, ByteArray.size_append, s1]
                have zY2 : Y2.size = x0.size + 1 + o.size := by rw [← y2, ByteArray.size_append, zY1]
                have zY3 : Y3.size = x0.size + 1 + o.size + 2 := by rw [← y3, ByteArray.size_append, zY2, s2]
                have zY4 : Y4.size = x0.size + 1 + o.size + 2 + x1.size := by rw [← y4, ByteArray.size_append, zY3]
                obtain ⟨Z1, u1⟩ : ∃ Z1, x0 ++ o = Z1 := ⟨_, rfl⟩
                obtain ⟨Z2, u2⟩ : ∃ Z2, Z1 ++ x1 = Z2 := ⟨_, rfl⟩
                have zZ1 : Z1.size = x0.size + o.size := by rw [← u1, ByteArray.size_append]
                have zZ2 : Z2.size = x0.size + o.size + x1.size := by rw [← u2, ByteArray.size_append, zZ1]
                obtain ⟨V1, v1⟩ : ∃ V1, (⟨#[116, 32, 117, 32, 58, 32]⟩ : ByteArray) ++ x0 = V1 := ⟨_, rfl⟩
                obtain ⟨V2, v2⟩ : ∃ V2, V1 ++ (⟨#[32]⟩ : ByteArray) = V2 := ⟨_, rfl⟩
                obtain ⟨V3, v3⟩ : ∃ V3, V2 ++ o = V3 := ⟨_, rfl⟩
                obtain ⟨V4, v4⟩ : ∃ V4, V3 ++ (⟨#[32]⟩ : ByteArray) = V4 := ⟨_, rfl⟩
                obtain ⟨V5, v5⟩ : ∃ V5, V4 ++ x1 = V5 := ⟨_, rfl⟩
                have zV1 : V1.size = 6 + x0.size := by rw [← v1, ByteArray.size_append, s6]
                have zV2 : V2.size = 6 + x0.size + 1 := by rw [← v2, ByteArray.size_append, zV1, s1]
                have zV3 : V3.size = 6 + x0.size + 1 + o.size := by rw [← v3, ByteArray.size_append, zV2]
                have zV4 : V4.size = 6 + x0.size + 1 + o.size + 1 := by rw [← v4, ByteArray.size_append, zV3, s1]
                have zV5 : V5.size = 6 + x0.size + 1 + o.size + 1 + x1.size := by rw [← v5, ByteArray.size_append, zV4]
                have a1 : x0.size + (⟨#[32]⟩ : ByteArray).size ≤ 1000000 := by omega
                have a2 : Y1.size + o.size ≤ 1000000 := by omega
                have a3 : Y2.size + (⟨#[32, 32]⟩ : ByteArray).size ≤ 1000000 := by omega
                have a4 : Y3.size + x1.size ≤ 1000000 := by omega
                have b1 : x0.size + o.size ≤ 1000000 := by omega
                have b2 : Z1.size + x1.size ≤ 1000000 := by omega
                have c1 : (⟨#[116, 32, 117, 32, 58, 32]⟩ : ByteArray).size + x0.size ≤ 1000000 := by omega
                have c2 : V1.size + (⟨#[32]⟩ : ByteArray).size ≤ 1000000 := by omega
                have c3 : V2.size + o.size ≤ 1000000 := by omega
                have c4 : V3.size + (⟨#[32]⟩ : ByteArray).size ≤ 1000000 := by omega
                have c5 : V4.size + x1.size ≤ 1000000 := by omega
                obtain ⟨hNe, hNc, hVd⟩ := nv_of x0 x1 he hn hlead'
                have tY : takeB Y4 = ⟨1, x0, x1, ⟨#[]⟩, ⟨#[]⟩, sv, false, false⟩ := by
                  have := take_set (tl x0) [32] [32, 32] (tl x1) k hk5 hNe hNc (by decide) (by decide) hVd Y4 (by rw [← y4, ← y3, ← y2, ← y1, tl_ap, tl_ap, tl_ap, tl_ap, HO.out]; simp [tl])
                  rw [mk_tl, mk_tl, ← HSV.out] at this
                  exact this
                have tZ : takeB Z2 = ⟨1, x0, x1, ⟨#[]⟩, ⟨#[]⟩, sv, false, false⟩ := by
                  have := take_set (tl x0) [] [] (tl x1) k hk5 hNe hNc (by simp) (by simp) hVd Z2 (by rw [← u2, ← u1, tl_ap, tl_ap, HO.out]; simp)
                  rw [mk_tl, mk_tl, ← HSV.out] at this
                  exact this
                have tV : takeB V5 = ⟨3, ⟨#[116, 32, 117, 32]⟩, x1, x0, ⟨#[]⟩, sv, false, false⟩ := by
                  have := take_scoped [116, 32, 117, 32] (tl x0) [32] [32] [32] (tl x1) k hk5 (by decide) (by simp) hNe hNc (by decide) (by decide) (by decide) hVd V5 (by rw [← v5, ← v4, ← v3, ← v2, ← v1, tl_ap, tl_ap, tl_ap, tl_ap, tl_ap, HO.out]; simp [tl])
                  rw [mk_tl, mk_tl, ← HSV.out] at this
                  exact this
                have kY := fun w => take_any Y4 (by omega) w
                have kZ := fun w => take_any Z2 (by omega) w
                have kV := fun w => take_any V5 (by omega) w
                rw [tY] at kY
                rw [tZ] at kZ
                rw [tV] at kV
                simp only [hv] at kY kZ kV
                clear tY tZ tV zY1 zY2 zY3 zY4 zZ1 zZ2 zV1 zV2 zV3 zV4 zV5 s1 s2 s6 hn hNe hNc hVd
                go_upto_region 19 with (go_at_call 8; refine (kY _).mono ?_; rintro e w3 ⟨rfl, hb3⟩)
                have hyA := bx8_at w3 1 x0 x1 ⟨#[]⟩ ⟨#[]⟩ sv false false
                have hB3 := HB2.out.trans (hb3.mono HB2.out.size)
                have hB4 := hB3.alloc hB3.size (.cells #[.int .i64 1, .string x0, .string x1, .string ⟨#[]⟩, .string ⟨#[]⟩, .int .i64 sv, .bool false, .bool false] 24)
                have hcA := cell_alloc ((hb3.cell (p := ⟨B, k, none⟩) hB0).trans HCC2.out) (.cells #[.int .i64 1, .string x0, .string x1, .string ⟨#[]⟩, .string ⟨#[]⟩, .int .i64 sv, .bool false, .bool false] 24)
                have hsA := cell_alloc ((hb3.cell (p := ⟨B + 1, k, none⟩) hD0).trans HCS.out) (.cells #[.int .i64 1, .string x0, .string x1, .string ⟨#[]⟩, .string ⟨#[]⟩, .int .i64 sv, .bool false, .bool false] 24)
                have hlA : W2.heap.size < (w3.alloc (.cells #[.int .i64 1, .string x0, .string x1, .string ⟨#[]⟩, .string ⟨#[]⟩, .int .i64 sv, .bool false, .bool false] 24)).heap.size := by have := hb3.size; simp; omega
                generalize hPA : w3.heap.size = PA at hyA ⊢
                generalize hWA : w3.alloc (.cells #[.int .i64 1, .string x0, .string x1, .string ⟨#[]⟩, .string ⟨#[]⟩, .int .i64 sv, .bool false, .bool false] 24) = WA at hyA hB4 hcA hsA hlA ⊢
                have HPA := hide' hPA
                have HWA := hide' hWA
                have HSA := hide' hsA
                clear hPA hWA hsA hb3 hB3 hcc2 kY y1 y2 y3 y4 a1 a2 a3 a4
                go_upto_region 20 with (go_at_call 8; refine (kZ _).mono ?_; rintro e w4 ⟨rfl, hb4⟩)
                have hyA4 := (hyA.below hb4).alloc (.cells #[.int .i64 1, .string x0, .string x1, .string ⟨#[]⟩, .string ⟨#[]⟩, .int .i64 sv, .bool false, .bool false] 24)
                have hyB := bx8_at w4 1 x0 x1 ⟨#[]⟩ ⟨#[]⟩ sv false false
                have hB5 := hB4.trans (hb4.mono hB4.size)
                have hB6 := hB5.alloc hB5.size (.cells #[.int .i64 1, .string x0, .string x1, .string ⟨#[]⟩, .string ⟨#[]⟩, .int .i64 sv, .bool false, .bool false] 24)
                have hcB := cell_alloc ((hb4.cell (p := ⟨B, k, none⟩) (Nat.lt_trans hB0 hlA)).trans hcA) (.cells #[.int .i64 1, .string x0, .string x1, .string ⟨#[]⟩, .string ⟨#[]⟩, .int .i64 sv, .bool false, .bool false] 24)
                have hsB := cell_alloc ((hb4.cell (p := ⟨B + 1, k, none⟩) (Nat.lt_trans hD0 hlA)).trans HSA.out) (.cells #[.int .i64 1, .string x0, .string x1, .string ⟨#[]⟩, .string ⟨#[]⟩, .int .i64 sv, .bool false, .bool false] 24)
                have hlB : W2.heap.size < (w4.alloc (.cells #[.int .i64 1, .string x0, .string x1, .string ⟨#[]⟩, .string ⟨#[]⟩, .int .i64 sv, .bool false, .bool false] 24)).heap.size := by have := hb4.size; simp; omega
                generalize hPB : w4.heap.size = PB at hyB ⊢
                generalize hWB : w4.alloc (.cells #[.int .i64 1, .string x0, .string x1, .string ⟨#[]⟩, .string ⟨#[]⟩, .int .i64 sv, .bool false, .bool false] 24) = WB at hyA4 hyB hB6 hcB hsB hlB ⊢
                have HPB := hide' hPB
                have HWB := hide' hWB
                have HSB := hide' hsB
                clear hPB hWB hsB hb4 hB5 hB4 hcA kZ u1 u2 b1 b2 hyA
                go_upto_region 21 with (go_at_call 8; refine (kV _).mono ?_; rintro e w5 ⟨rfl, hb5⟩)
                have hyA5 := (hyA4.below hb5).alloc (.cells #[.int .i64 3, .string ⟨#[116, 32, 117, 32]⟩, .string x1, .string x0, .string ⟨#[]⟩, .int .i64 sv, .bool false, .bool false] 24)
                have hyB5 := (hyB.below hb5).alloc (.cells #[.int .i64 3, .string ⟨#[116, 32, 117, 32]⟩, .string x1, .string x0, .string ⟨#[]⟩, .int .i64 sv, .bool false, .bool false] 24)
                have hyC := bx8_at w5 3 ⟨#[116, 32, 117, 32]⟩ x1 x0 ⟨#[]⟩ sv false false
                have hB7 := hB6.trans (hb5.mono hB6.size)
                have hB8 := hB7.alloc hB7.size (.cells #[.int .i64 3, .string ⟨#[116, 32, 117, 32]⟩, .string x1, .string x0, .string ⟨#[]⟩, .int .i64 sv, .bool false, .bool false] 24)
                have hsC := cell_alloc ((hb5.cell (p := ⟨B + 1, k, none⟩) (Nat.lt_trans hD0 hlB)).trans HSB.out) (.cells #[.int .i64 3, .string ⟨#[116, 32, 117, 32]⟩, .string x1, .string x0, .string ⟨#[]⟩, .int .i64 sv, .bool false, .bool false] 24)
                have hlC : W2.heap.size < (w5.alloc (.cells #[.int .i64 3, .string ⟨#[116, 32, 117, 32]⟩, .string x1, .string x0, .string ⟨#[]⟩, .int .i64 sv, .bool false, .bool false] 24)).heap.size := by have := hb5.size; simp; omega
                generalize hPC : w5.heap.size = PC at hyC ⊢
                generalize hWC : w5.alloc (.cells #[.int .i64 3, .string ⟨#[116, 32, 117, 32]⟩, .string x1, .string x0, .string ⟨#[]⟩, .int .i64 sv, .bool false, .bool false] 24) = WC at hyA5 hyB5 hyC hB8 hsC hlC ⊢
                have HPC := hide' hPC
                have HWC := hide' hWC
                clear hPC hWC hb5 hB7 hB6 hcB kV v1 v2 v3 v4 v5 c1 c2 c3 c4 c5 hyA4 hyB
                go_upto_region 22 with fail
                have hyA6 := hyA5.alloc (.cells #[.int .i64 1, .string x0, .string x1, .string ⟨#[]⟩, .string ⟨#[]⟩, .int .i64 sv, .bool false, .bool false] 24)
                have hyB6 := hyB5.alloc (.cells #[.int .i64 1, .string x0, .string x1, .string ⟨#[]⟩, .string ⟨#[]⟩, .int .i64 sv, .bool false, .bool false] 24)
                have hyC6 := hyC.alloc (.cells #[.int .i64 1, .string x0, .string x1, .string ⟨#[]⟩, .string ⟨#[]⟩, .int .i64 sv, .bool false, .bool false] 24)
                have hyD := bx8_at WC 1 x0 x1 ⟨#[]⟩ ⟨#[]⟩ sv false false
                have hsD := cell_alloc hsC (.cells #[.int .i64 1, .string x0, .string x1, .string ⟨#[]⟩, .string ⟨#[]⟩, .int .i64 sv, .bool false, .bool false] 24)
                have hB9 := hB8.alloc hB8.size (.cells #[.int .i64 1, .string x0, .string x1, .string ⟨#[]⟩, .string ⟨#[]⟩, .int .i64 sv, .bool false, .bool false] 24)
                generalize hPD : WC.heap.size = PD at hyD ⊢
                generalize hWD : WC.alloc (.cells #[.int .i64 1, .string x0, .string x1, .string ⟨#[]⟩, .string ⟨#[]⟩, .int .i64 sv, .bool false, .bool false] 24) = WD at hyA6 hyB6 hyC6 hyD hB9 hsD ⊢
                have HPD := hide' hPD
                have HWD := hide' hWD
                have HB9 := hide' hB9
                have hE1 := hd_eq 1 x0 x1 ⟨#[]⟩ ⟨#[]⟩ sv false false
                have hE3 := hd_eq 3 ⟨#[116, 32, 117, 32]⟩ x1 x0 ⟨#[]⟩ sv false false
                have ac0 := hyA6.c0
                have af0 := hyA6.fz 0
                have ac1 := hyA6.c1
                have af1 := hyA6.fz 1
                have ac2 := hyA6.c2
                have af2 := hyA6.fz 2
                have ac3 := hyA6.c3
                have af3 := hyA6.fz 3
                have ac4 := hyA6.c4
                have af4 := hyA6.fz 4
                have ac5 := hyA6.c5
                have af5 := hyA6.fz 5
                have ac6 := hyA6.c6
                have af6 := hyA6.fz 6
                have ac7 := hyA6.c7
                have af7 := hyA6.fz 7
                have bc0 := hyB6.c0
                have bf0 := hyB6.fz 0
                have bc1 := hyB6.c1
                have bf1 := hyB6.fz 1
                have bc2 := hyB6.c2
                have bf2 := hyB6.fz 2
                have bc3 := hyB6.c3
                have bf3 := hyB6.fz 3
                have bc4 := hyB6.c4
                have bf4 := hyB6.fz 4
                have bc5 := hyB6.c5
                have bf5 := hyB6.fz 5
                have bc6 := hyB6.c6
                have bf6 := hyB6.fz 6
                have bc7 := hyB6.c7
                have bf7 := hyB6.fz 7
                have cc0 := hyC6.c0
                have cf0 := hyC6.fz 0
                have cc1 := hyC6.c1
                have cf1 := hyC6.fz 1
                have cc2 := hyC6.c2
                have cf2 := hyC6.fz 2
                have cc3 := hyC6.c3
                have cf3 := hyC6.fz 3
                have cc4 := hyC6.c4
                have cf4 := hyC6.fz 4
                have cc5 := hyC6.c5
                have cf5 := hyC6.fz 5
                have cc6 := hyC6.c6
                have cf6 := hyC6.fz 6
                have cc7 := hyC6.c7
                have cf7 := hyC6.fz 7
                have dc0 := hyD.c0
                have df0 := hyD.fz 0
                have dc1 := hyD.c1
                have df1 := hyD.fz 1
                have dc2 := hyD.c2
                have df2 := hyD.fz 2
                have dc3 := hyD.c3
                have df3 := hyD.fz 3
                have dc4 := hyD.c4
                have df4 := hyD.fz 4
                have dc5 := hyD.c5
                have df5 := hyD.fz 5
                have dc6 := hyD.c6
                have df6 := hyD.fz 6
                have dc7 := hyD.c7
                have df7 := hyD.fz 7
                clear hPD hWD hB8 hB9 hsC hyA5 hyB5 hyC hyA6 hyB6 hyC6 hyD
                go_region
                go_wp2
                go_ret
                exact ⟨rfl, HB9.out.os, HB9.out.tape, HB9.out.output, HB9.out.size, HB9.out.block⟩
end Go.Proofs.YtchnimlnoolkiaaGreatDoor
