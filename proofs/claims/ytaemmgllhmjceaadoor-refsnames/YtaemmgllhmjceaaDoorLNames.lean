/- The law RefsNames answers true. -/
import Derived.Test.YtaemmgllhmjceaaDoorAlive
import Derived.Test.YtaemmgllhmjceaaDoorLists
namespace Go.Proofs.YtaemmgllhmjceaaDoor
open Go.RowKit

/-- the names -/
def nmL : List ByteArray := (List.range 34).map nmA
theorem nmV_eq : nmV = nmL.map Value.string := by unfold nmV nmL; rw [List.map_map]; rfl
theorem nmL_len : nmL.length = 34 := by unfold nmL; simp
set_option maxRecDepth 100000 in
set_option maxHeartbeats 4000000 in
theorem lnames_any (s : ByteArray) (n : Int) (hn1 : n ≤ 9223372036854775807) (w : World) (hF : FnsAt w 0) : Calls Tryd.prog 5 #[.string s, .int .i64 n] w fun e w' => e = .returned (.bool true) ∧ Below w.heap.size w w' := by
  have k1 := alive_any w hF
  by_cases h1 : s.size ≤ 100
  · have d1 : decide ((100 : Int) < (s.size : Int)) = false := decide_eq_false (by omega)
    by_cases h2 : 0 ≤ n
    · have d2 : decide (n < 0) = false := decide_eq_false (by omega)
      obtain ⟨m, rfl⟩ := Int.eq_ofNat_of_zero_le h2
      obtain ⟨j, hj⟩ : ∃ j, j = m % 34 := ⟨_, rfl⟩
      have hj34 : j < 34 := by omega
      have hrem : (m : Int).tmod 34 = (j : Int) := by rw [hj]; rfl
      have kF : ∀ w1, Below w.heap.size w w1 → _ := fun w1 hb => funcs_any w1 (hF.below hb)
      have kR := fun w => rfuncs_any w
      have kB : ∀ x w1, Below w.heap.size w w1 → _ := fun x w1 hb => bounds_any x w1 (hF.below hb)
      have kC := fun x w => rbounds_any x w
      have hjr : ((List.range 34).map fun i => Value.string (nmA i))[j]? = some (.string (nmA j)) := by rw [List.getElem?_map, List.getElem?_range hj34]; rfl
      clear h2 hj hF
      go_enter Tryd.func5, Tryd.ntmps5
      go_upto_region 9 with (first | (go_at_call 7; refine k1.mono ?_; rintro e w1 ⟨rfl, hb1⟩) | (go_at_call 15; refine (kF _ hb1).mono ?_; rintro e w2 ⟨v2, rfl, hr2, hb2⟩; have hB2 := hb1.trans (hb2.mono hb1.size)) | (go_at_call 16; refine (kR _).mono ?_; rintro e w3 ⟨v3, rfl, hr3, hb3⟩; have hB3 := hB2.trans (hb3.mono hB2.size); have hr2' := own_below hr2 hb3) | (go_at_call 17; refine (same_any nmL _ _ _ (Strs.of_row (by rw [nmL_len, ← nmV_eq]; exact hr2')) (Strs.of_row (by rw [nmL_len, ← nmV_eq]; exact hr3))).mono ?_; rintro e w4 ⟨rfl, hb4⟩; have hB4 := hB3.trans (hb4.mono hB3.size)) | (go_at_call 18; refine (kB _ _ hB4).mono ?_; rintro e w5 ⟨rfl, hb5⟩; have hB5 := hB4.trans (hb5.mono hB4.size)) | (go_at_call 19; refine (kC _ _).mono ?_; rintro e w6 ⟨rfl, hb6⟩; have hB6 := hB5.trans (hb6.mono hB5.size)))
      obtain ⟨g3, cap3, rfl, hc1, hc2, hg3, hg3b, hcell⟩ := own_cells hr3 (by decide)
      have hB46 : Below w3.heap.size w3 w6 := hb4.trans ((hb5.trans (hb6.mono hb5.size)).mono hb4.size)
      have q6 : ∀ w7, Below w3.heap.size w3 w7 → w7.cell? ⟨g3, j, none⟩ = some (.string (nmA j)) := fun w7 hb => (hb.cell (p := ⟨g3, j, none⟩) hg3).trans (hcell j _ hjr)
      have c6 := q6 w6 hB46
      have HQ := hide' q6
      have HR2 := hide' hr2'
      have HR0 := hide' hr2
      have HR3 := hide' hr3
      clear q6 hcell hr2 hr2' hr3 hb4 hb5 hb6 kR hB3 hB4 hB5 k1
      generalize nmA j = nj at c6 HQ
      have hjc : (j : Int) < 34 := by omega
      go_upto_region 12 with (first | (go_at_call 18; refine (kB _ _ hB6).mono ?_; rintro e w7 ⟨rfl, hb7⟩; have hB7 := hB6.trans (hb7.mono hB6.size); have hB47 := hB46.trans (hb7.mono hB46.size); have c7 := HQ.out w7 hB47) | (go_at_call 19; refine (kC _ _).mono ?_; rintro e w8 ⟨rfl, hb8⟩; have hB8 := hB7.trans (hb8.mono hB7.size); have hB48 := hB47.trans (hb8.mono hB47.size)))
      have hr28 := own_below HR2.out hB48
      have hr38 := own_below HR3.out hB48
      have kW := wipe_wr w8 w1.heap.size v2 (Wr.of_own hr28)
      have hne : ∀ k, v2.ownBlock = some k → k < w2.heap.size := fun k hk => by
        exact own_lt HR0.out k hk
      have HR38 := hide' hr38
      clear hr28 hr38 HQ HR2 HR3 c6 c7 hB46 hB47 HR0
      go_wp2_with (first | (go_at_call 9; refine kW.mono ?_; rintro e w9 ⟨rfl, ht9, hb9, _⟩; have hB9 : Below w.heap.size w w9 := hB8.trans (hb9.mono hb1.size); have hr9 := own_kept HR38.out (w' := w9) (fun k hk => ht9.block k (own_lt HR38.out k hk) (fun e => by have h8 := hne k e; have h9 := own_low HR38.out k hk; omega))) | (go_at_call 15; refine (kF _ hB9).mono ?_; rintro e w10 ⟨v10, rfl, hr10, hb10⟩; have hB10 := hB9.trans (hb10.mono hB9.size); have hr9' := own_below hr9 hb10) | (go_at_call 17; refine (same_any nmL _ _ _ (Strs.of_row (by rw [nmL_len, ← nmV_eq]; exact hr10)) (Strs.of_row (by rw [nmL_len, ← nmV_eq]; exact hr9'))).mono ?_; rintro e w11 ⟨rfl, hb11⟩; have hB11 := hB10.trans (hb11.mono hB10.size)))
      go_ret
      exact ⟨rfl, hB11⟩
    · have d2 : decide (n < 0) = true := decide_eq_true (by omega)
      go_enter Tryd.func5, Tryd.ntmps5
      go_wp2_with (go_at_call 7; refine k1.mono ?_; rintro e w1 ⟨rfl, hb1⟩)
      go_ret
      exact ⟨rfl, hb1⟩
  · have d1 : decide ((100 : Int) < (s.size : Int)) = true := decide_eq_true (by omega)
    go_enter Tryd.func5, Tryd.ntmps5
    go_wp2_with (go_at_call 7; refine k1.mono ?_; rintro e w1 ⟨rfl, hb1⟩)
    go_ret
    exact ⟨rfl, hb1⟩
end Go.Proofs.YtaemmgllhmjceaaDoor
