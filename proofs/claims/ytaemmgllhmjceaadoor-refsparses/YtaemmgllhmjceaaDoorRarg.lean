/- The contract of anvilref10.arguments. -/
import Derived.Test.YtaemmgllhmjceaaDoorArg
namespace Go.Proofs.YtaemmgllhmjceaaDoor
open Go.RowKit

/-- a row is kept where a row of another type has grown -/
theorem row_grow {w w' : World} {tmp : Obj} {B B' e e' size size' n n' : Nat} {v v' : Value} {xs xs' : List Value} (h : w.ownsRow B e size v n xs) (hr : w.ownsRow B' e' size' v' n' xs') (he : e ≠ e') (hg : (w.alloc tmp).grownBy w' v'.ownBlock) : w'.ownsRow B e size v n xs :=
  own_kept h fun g hgg => (hg.block g (by have := own_lt h g hgg; simp; omega) (fun e1 => own_apart h hr he hgg e1.symm)).trans (Below.heap_alloc _ _ g (own_lt h g hgg))
set_option maxRecDepth 100000 in
set_option maxHeartbeats 8000000 in
theorem rarguments_any (s : ByteArray) (hs : s.size ≤ 100000) (m : Int) (hm0 : -1 ≤ m) (hm1 : m ≤ 3) (hm2 : ¬ m = 0) (w : World) :
    Calls Tryd.prog 37 #[.string s, .int .i64 m] w fun e w' => ∃ v, e = .returned v ∧ w'.ownsRow w.heap.size 9 1 v (arg m [] [] [] (tl s)).length ((arg m [] [] [] (tl s)).map sV) ∧ Below w.heap.size w w' := by
  obtain ⟨i0, hi, hz0, hz1, hz2⟩ := info_parts info9
  obtain ⟨i5, hi5, hy0, hy1, hy2⟩ := info_parts info5
  obtain ⟨R, hR⟩ : ∃ R, R = arg m [] [] [] (tl s) := ⟨_, rfl⟩
  have HR := hide' hR
  rw [← hR]
  clear hR
  go_enter Tryd.func37, Tryd.ntmps37
  go_wp2
  go_loopw [5, 6, 7, 8] (fun lv fv ov i wr => ∃ (k f : Nat) (st : List Bool) (acc : List Bs), k ≤ s.size ∧ f ≤ k ∧ acc.length ≤ k ∧ st.length ≤ k ∧ (m < 0 ∨ (acc.length : Int) + 1 ≤ m) ∧ fv = .int .i64 f ∧ i = .int .i64 k ∧ wr.ownsRow w.heap.size 5 1 ov st.length ((st.map opB).map bV) ∧ wr.ownsRow w.heap.size 9 1 lv acc.length (acc.map sV) ∧ Below w.heap.size w wr ∧ Hid (ArI m s R k f st acc)) (fun _ _ _ i _ => s.size - (intOf i).toNat)
  case atStart => exact ⟨0, 0, [], [], Nat.zero_le _, Nat.le_refl _, Nat.le_refl _, Nat.le_refl _, by simp; omega, rfl, rfl, World.ownsRow_nil _ _ _ _, World.ownsRow_nil _ _ _ _, Below.refl _ w, HR.out.symm⟩
  case round =>
    clear HR
    obtain ⟨k, f, st, acc, hk, hf, hac, hst, hmx, rfl, rfl, hop, hrow, hB, HI⟩ := hrel
    obtain ⟨la, lc, rfl⟩ := own_len hrow
    obtain ⟨oa, oc, rfl⟩ := own_len hop
    have hsz := hB.size
    have hpb : acc.length + 1 ≤ maxLen := by unfold maxLen; omega
    have hbb : (acc.length + 1) * 16 ≤ 140737488355328 := by omega
    have hqb : st.length + 1 ≤ maxLen := by unfold maxLen; omega
    have hqq : (st.length + 1) * 1 ≤ 140737488355328 := by omega
    have h2b : ∀ o, w.heap.size ≤ (wr.alloc o).heap.size := fun o => by simp; omega
    by_cases hlt : k < s.size
    · by_cases c1 : s[k] = 40
      · have e1 : ((s[k].toNat : Int) == 40) = true := beq_yes _ 40 40 rfl c1
        have e1' : (s[k].toNat : Int) = 40 := by rw [c1]; rfl
        have hq : s[k] = opB true := c1
        clear c1
        have HI' := hide' (ari_open hlt hf true hq HI.out)
        clear hq HI
        go_wp2_with (at_builtin; refine wpList_append_own _ rfl _ _ 43 rfl w.heap.size 5 i5 (.int .u8 0) 1 1 Tryd.underlying43 hi5 hy0 hy1 hy2 rfl (by decide) _ _ _ rfl (hop.alloc _) ⟨wr.heap.size, 0, none⟩ 1 1 [.int .u8 40] rfl rfl (cell_one_new _ _ _) (by simp [Value.oneCell']) hqb hqq (h2b _) ?_; intro v' w4 hown' hgrow _)
        have hB4 := app_below hB hsz hop hgrow
        have hrow4 := row_grow hrow hop (by decide) hgrow
        exact ⟨⟨k + 1, f, st ++ [true], acc, by omega, by omega, by omega, by simp; omega, hmx, rfl, by go_num, by rw [List.map_append, List.map_append, List.length_append]; exact hown', hrow4, hB4, HI'⟩, by simp [intOf]; omega⟩
      have e1 : ((s[k].toNat : Int) == 40) = false := beq_no _ 40 40 rfl c1
      by_cases c2 : s[k] = 123
      · have e2 : ((s[k].toNat : Int) == 123) = true := beq_yes _ 123 123 rfl c2
        have e2' : (s[k].toNat : Int) = 123 := by rw [c2]; rfl
        have hq : s[k] = opB false := c2
        clear c1 c2
        have HI' := hide' (ari_open hlt hf false hq HI.out)
        clear hq HI
        go_wp2_with (at_builtin; refine wpList_append_own _ rfl _ _ 43 rfl w.heap.size 5 i5 (.int .u8 0) 1 1 Tryd.underlying43 hi5 hy0 hy1 hy2 rfl (by decide) _ _ _ rfl (hop.alloc _) ⟨wr.heap.size, 0, none⟩ 1 1 [.int .u8 123] rfl rfl (cell_one_new _ _ _) (by simp [Value.oneCell']) hqb hqq (h2b _) ?_; intro v' w4 hown' hgrow _)
        have hB4 := app_below hB hsz hop hgrow
        have hrow4 := row_grow hrow hop (by decide) hgrow
        exact ⟨⟨k + 1, f, st ++ [false], acc, by omega, by omega, by omega, by simp; omega, hmx, rfl, by go_num, by rw [List.map_append, List.map_append, List.length_append]; exact hown', hrow4, hB4, HI'⟩, by simp [intOf]; omega⟩
      have e2 : ((s[k].toNat : Int) == 123) = false := beq_no _ 123 123 rfl c2
      by_cases c3 : s[k] = 41
      · have e3 : ((s[k].toNat : Int) == 41) = true := beq_yes _ 41 41 rfl c3
        have hq : s[k] = clB true := c3
        clear c1 c2 c3
        have HI' := hide' (ari_shut hlt hf true hq HI.out)
        clear hq HI
        rcases List.eq_nil_or_concat st with rfl | ⟨os, x, rfl⟩
        · have d1 : ¬ (0 : Int) < 0 := by omega
          go_wp2
          exact ⟨⟨k + 1, f, [], acc, by omega, by omega, by omega, by simp, hmx, rfl, by go_num, hop, hrow, hB, HI'⟩, by simp [intOf]; omega⟩
        · rw [List.concat_eq_append] at hop hst HI'
          rw [popB_snoc] at HI'
          have hl : (os ++ [x]).length = os.length + 1 := by simp
          rw [hl] at hop hst
          obtain ⟨g, cap, hv, h1, h2, h3, h4, h5⟩ := own_cut hop
          obtain ⟨rfl, rfl⟩ : oa = some ⟨g, 0, none⟩ ∧ oc = cap := by simpa using hv
          have cx : wr.cell? ⟨g, os.length, none⟩ = some (.int .u8 (opB x).toNat) := by rw [h4 _ (by omega)]; simp
          have dn : (0 : Int) < (os.length : Int) + 1 := by omega
          by_cases hx : x = true
          · rw [if_pos hx] at HI'
            have d3 : (((opB x).toNat : Int) == 40) = true := by rw [hx]; decide
            have h5' : wr.ownsRow w.heap.size 5 1 (.slice (some ⟨g, 0, none⟩) os.length oc) os.length ((os.map opB).map bV) := by
              rw [List.map_append, List.map_append, List.take_left' (by simp)] at h5
              exact h5
            clear hv h4 h5 hx hl
            go_wp2
            exact ⟨⟨k + 1, f, os, acc, by omega, by omega, by omega, by omega, hmx, rfl, by go_num, h5', hrow, hB, HI'⟩, by simp [intOf]; omega⟩
          · rw [if_neg hx] at HI'
            have d3 : (((opB x).toNat : Int) == 40) = false := by
              have : x = false := by cases x <;> first | rfl | exact absurd rfl hx
              rw [this]; decide
            clear hv h4 h5 hx hl
            go_wp2
            exact ⟨⟨k + 1, f, os ++ [x], acc, by omega, by omega, by omega, by simp; omega, hmx, rfl, by go_num, by simpa using hop, hrow, hB, HI'⟩, by simp [intOf]; omega⟩
      have e3 : ((s[k].toNat : Int) == 41) = false := beq_no _ 41 41 rfl c3
      by_cases c4 : s[k] = 125
      · have e4 : ((s[k].toNat : Int) == 125) = true := beq_yes _ 125 125 rfl c4
        have hq : s[k] = clB false := c4
        clear c1 c2 c3 c4
        have HI' := hide' (ari_shut hlt hf false hq HI.out)
        clear hq HI
        rcases List.eq_nil_or_concat st with rfl | ⟨os, x, rfl⟩
        · have d1 : ¬ (0 : Int) < 0 := by omega
          go_wp2
          exact ⟨⟨k + 1, f, [], acc, by omega, by omega, by omega, by simp, hmx, rfl, by go_num, hop, hrow, hB, HI'⟩, by simp [intOf]; omega⟩
        · rw [List.concat_eq_append] at hop hst HI'
          rw [popB_snoc] at HI'
          have hl : (os ++ [x]).length = os.length + 1 := by simp
          rw [hl] at hop hst
          obtain ⟨g, cap, hv, h1, h2, h3, h4, h5⟩ := own_cut hop
          obtain ⟨rfl, rfl⟩ : oa = some ⟨g, 0, none⟩ ∧ oc = cap := by simpa using hv
          have cx : wr.cell? ⟨g, os.length, none⟩ = some (.int .u8 (opB x).toNat) := by rw [h4 _ (by omega)]; simp
          have dn : (0 : Int) < (os.length : Int) + 1 := by omega
          by_cases hx : x = false
          · rw [if_pos hx] at HI'
            have d3 : (((opB x).toNat : Int) == 123) = true := by rw [hx]; decide
            have h5' : wr.ownsRow w.heap.size 5 1 (.slice (some ⟨g, 0, none⟩) os.length oc) os.length ((os.map opB).map bV) := by
              rw [List.map_append, List.map_append, List.take_left' (by simp)] at h5
              exact h5
            clear hv h4 h5 hx hl
            go_wp2
            exact ⟨⟨k + 1, f, os, acc, by omega, by omega, by omega, by omega, hmx, rfl, by go_num, h5', hrow, hB, HI'⟩, by simp [intOf]; omega⟩
          · rw [if_neg hx] at HI'
            have d3 : (((opB x).toNat : Int) == 123) = false := by
              have : x = true := by cases x <;> first | rfl | exact absurd rfl hx
              rw [this]; decide
            clear hv h4 h5 hx hl
            go_wp2
            exact ⟨⟨k + 1, f, os ++ [x], acc, by omega, by omega, by omega, by simp; omega, hmx, rfl, by go_num, by simpa using hop, hrow, hB, HI'⟩, by simp [intOf]; omega⟩
      have e4 : ((s[k].toNat : Int) == 125) = false := beq_no _ 125 125 rfl c4
      by_cases c5 : s[k] = 44
      · have e5 : ((s[k].toNat : Int) == 44) = true := beq_yes _ 44 44 rfl c5
        by_cases h1 : st = []
        · have d1 : ((st.length : Int) == 0) = true := by rw [h1]; rfl
          by_cases h2 : (acc.length : Int) + 1 = m
          · have d2 : decide (m < 0) = false := decide_eq_false (by omega)
            have d3 : decide ((acc.length : Int) + 1 < m) = false := decide_eq_false (by omega)
            have HI' := hide' (ari_byte hlt hf c1 c2 c3 c4 (fun h => h.2.2 h2) HI.out)
            have HM := hide' h2
            clear c1 c2 c3 c4 c5 HI h1 h2
            go_wp2
            exact ⟨⟨k + 1, f, st, acc, by omega, by omega, by omega, by omega, hmx, rfl, by go_num, hop, hrow, hB, HI'⟩, by simp [intOf]; omega⟩
          · have HI' := hide' (ari_cut hlt c5 h1 h2 HI.out)
            have hx := pc_ext s f k
            generalize hp : mk (pc (tl s) f k) = p at hx
            have HP := hide' hp
            have hmx' : m < 0 ∨ (((acc ++ [pc (tl s) f k]).length : Nat) : Int) + 1 ≤ m := by simp; omega
            clear c1 c2 c3 c4 c5 HI hp
            by_cases hneg : m < 0
            · have d2 : decide (m < 0) = true := decide_eq_true hneg
              clear h1 h2
              go_wp2_with (at_builtin; refine wpList_append_own _ rfl _ _ 28 rfl w.heap.size 9 i0 (.string ⟨#[]⟩) 1 16 Tryd.underlying28 hi hz0 hz1 hz2 rfl (by decide) _ _ _ rfl (hrow.alloc _) ⟨wr.heap.size, 0, none⟩ 1 1 [.string p] rfl rfl (cell_one_new _ _ _) (by simp [Value.oneCell']) hpb hbb (h2b _) ?_; intro v' w4 hown' hgrow _)
              have hB4 := app_below hB hsz hrow hgrow
              have hop4 := row_grow hop hrow (by decide) hgrow
              exact ⟨⟨k + 1, k + 1, st, acc ++ [pc (tl s) f k], by omega, by omega, by rw [List.length_append]; show _ + 1 ≤ _; omega, by omega, hmx', by go_num, by go_num, hop4, by rw [List.map_append, List.length_append]; simp only [List.map_cons, List.map_nil, sV, HP.out]; exact hown', hB4, HI'⟩, by simp [intOf]; omega⟩
            · have d2 : decide (m < 0) = false := decide_eq_false hneg
              have d3 : decide ((acc.length : Int) + 1 < m) = true := decide_eq_true (by omega)
              clear h1 h2
              go_wp2_with (at_builtin; refine wpList_append_own _ rfl _ _ 28 rfl w.heap.size 9 i0 (.string ⟨#[]⟩) 1 16 Tryd.underlying28 hi hz0 hz1 hz2 rfl (by decide) _ _ _ rfl (hrow.alloc _) ⟨wr.heap.size, 0, none⟩ 1 1 [.string p] rfl rfl (cell_one_new _ _ _) (by simp [Value.oneCell']) hpb hbb (h2b _) ?_; intro v' w4 hown' hgrow _)
              have hB4 := app_below hB hsz hrow hgrow
              have hop4 := row_grow hop hrow (by decide) hgrow
              exact ⟨⟨k + 1, k + 1, st, acc ++ [pc (tl s) f k], by omega, by omega, by rw [List.length_append]; show _ + 1 ≤ _; omega, by omega, hmx', by go_num, by go_num, hop4, by rw [List.map_append, List.length_append]; simp only [List.map_cons, List.map_nil, sV, HP.out]; exact hown', hB4, HI'⟩, by simp [intOf]; omega⟩
        · have d1 : ((st.length : Int) == 0) = false := beq_eq_false_iff_ne.2 fun e => h1 (List.length_eq_zero_iff.1 (by omega))
          have HI' := hide' (ari_byte hlt hf c1 c2 c3 c4 (fun h => h1 h.2.1) HI.out)
          clear c1 c2 c3 c4 c5 HI h1
          go_wp2
          exact ⟨⟨k + 1, f, st, acc, by omega, by omega, by omega, by omega, hmx, rfl, by go_num, hop, hrow, hB, HI'⟩, by simp [intOf]; omega⟩
      · have e5 : ((s[k].toNat : Int) == 44) = false := beq_no _ 44 44 rfl c5
        have HI' := hide' (ari_byte hlt hf c1 c2 c3 c4 (fun h => c5 h.1) HI.out)
        clear c1 c2 c3 c4 c5 HI
        go_wp2
        exact ⟨⟨k + 1, f, st, acc, by omega, by omega, by omega, by omega, hmx, rfl, by go_num, hop, hrow, hB, HI'⟩, by simp [intOf]; omega⟩
    · obtain rfl : k = s.size := by omega
      have HI' := hide' (ari_end HI.out)
      have hx := pc_end s f
      generalize hp : mk (pc (tl s) f s.size) = p at hx
      have HP := hide' hp
      clear HI hp
      go_wp2_with (at_builtin; refine wpList_append_own _ rfl _ _ 28 rfl w.heap.size 9 i0 (.string ⟨#[]⟩) 1 16 Tryd.underlying28 hi hz0 hz1 hz2 rfl (by decide) _ _ _ rfl (hrow.alloc _) ⟨wr.heap.size, 0, none⟩ 1 1 [.string p] rfl rfl (cell_one_new _ _ _) (by simp [Value.oneCell']) hpb hbb (h2b _) ?_; intro v' w4 hown' hgrow _)
      have hB4 := app_below hB hsz hrow hgrow
      go_ret
      refine ⟨_, rfl, ?_, hB4⟩
      rw [← HI'.out, List.map_append, List.length_append]
      simp only [List.map_cons, List.map_nil, sV, HP.out]
      exact hown'
end Go.Proofs.YtaemmgllhmjceaaDoor
