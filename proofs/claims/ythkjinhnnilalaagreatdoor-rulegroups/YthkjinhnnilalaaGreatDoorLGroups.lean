/- The law RuleGroups answers true. -/
import Derived.Test.YthkjinhnnilalaaGreatDoorRGr
import Derived.Test.YthkjinhnnilalaaGreatDoorPLent
import Derived.Test.YthkjinhnnilalaaGreatDoorAlive
import Derived.Lib.QuietBelow
namespace Go.Proofs.YthkjinhnnilalaaGreatDoor
open Go.RowKit Go.Shelf Go.Sort

theorem grpg_nil (a : Option Addr) (cap : Nat) (w : World) : Calls Tryz.prog 10 #[.slice a 0 cap] w fun e w' => e = .returned (.slice none 0 0) ∧ w' = w := by
  have kL := last_nil a cap w
  go_enter Tryz.func10, Tryz.ntmps10
  go_wp2_with (go_at_call 20; refine kL.mono ?_; rintro e w1 ⟨rfl, rfl⟩)
  clear kL
  go_loopw [13, 3, 4] (fun i l a wr => i = .int .i64 0 ∧ l = .slice none 0 0 ∧ a = .string ⟨#[]⟩ ∧ wr = w1) (fun _ _ _ _ => 0)
  case atStart => exact ⟨rfl, rfl, rfl, rfl⟩
  case round =>
    obtain ⟨rfl, rfl, rfl, rfl⟩ := hrel
    go_wp2
    go_ret
    exact ⟨rfl, rfl⟩
theorem rgrp_nil (a : Option Addr) (cap : Nat) (w : World) : Calls Tryz.prog 13 #[.slice a 0 cap] w fun e w' => e = .returned (.slice none 0 0) ∧ w' = w := by
  go_enter Tryz.func13, Tryz.ntmps13
  go_wp2
  go_loopw [4, 3] (fun i l wr => i = .int .i64 0 ∧ l = .slice none 0 0 ∧ wr = w) (fun _ _ _ => 0)
  case atStart => exact ⟨rfl, rfl, rfl⟩
  case round =>
    obtain ⟨rfl, rfl, rfl⟩ := hrel
    go_wp2
    go_ret
    exact ⟨rfl, rfl⟩
theorem gd_is {L : List ByteArray} {P : ByteArray → Prop} (h : ∀ x ∈ L, P x) (j : Nat) (hj : j < L.length) : P (L.getD j ⟨#[]⟩) := by
  rw [List.getD_eq_getElem?_getD, List.getElem?_eq_getElem hj]
  exact h _ (List.getElem_mem hj)
theorem grpg_any (L : List ByteArray) (v : Value) (w : World) (hl : L.length ≤ 100000) (hs : ∀ x ∈ L, x.size ≤ 1000000) (h : Pt.Strz w v L) :
    Calls Tryz.prog 10 #[v] w fun e w' => ∃ (v : Value) (O : List ByteArray), e = .returned v ∧ O.map tl = grp [] (L.map tl) ∧ w'.ownsRow w.heap.size 9 1 v O.length (O.map Value.string) ∧ Below w.heap.size w w' := by
  rcases h.form with ⟨rfl, a, cap, rfl⟩ | ⟨_, b, off, cap, rfl, h3, h4⟩
  · exact (grpg_nil a cap w).mono fun e w' ⟨he, hw⟩ => ⟨_, [], he, rfl, World.ownsRow_nil _ _ _ _, hw ▸ Below.refl _ _⟩
  · exact grpg_some L b off cap w hl h3 hs h4
theorem rgrp_any (L : List ByteArray) (v : Value) (w : World) (hl : L.length ≤ 100000) (hs : ∀ x ∈ L, x.size ≤ 1000000 ∧ 0 < x.size) (h : Pt.Strz w v L) :
    Calls Tryz.prog 13 #[v] w fun e w' => ∃ (v : Value) (O : List ByteArray), e = .returned v ∧ O.map tl = grp [] (L.map tl) ∧ w'.ownsRow w.heap.size 9 1 v O.length (O.map Value.string) ∧ Below w.heap.size w w' := by
  rcases h.form with ⟨rfl, a, cap, rfl⟩ | ⟨_, b, off, cap, rfl, h3, h4⟩
  · exact (rgrp_nil a cap w).mono fun e w' ⟨he, hw⟩ => ⟨_, [], he, rfl, World.ownsRow_nil _ _ _ _, hw ▸ Below.refl _ _⟩
  · exact rgrp_some L b off cap w hl h3 (fun j hj => gd_is hs j hj) h4
/-- the words that are not empty, of the first k -/
def fl (L : List ByteArray) (k : Nat) : List ByteArray := (L.take k).filter fun x => !(tl x).isEmpty
theorem fl_next (L : List ByteArray) (k : Nat) (h : k < L.length) : fl L (k + 1) = fl L k ++ (if (tl (L.getD k ⟨#[]⟩)).isEmpty then [] else [L.getD k ⟨#[]⟩]) := by
  unfold fl
  rw [List.take_succ_eq_append_getElem h, List.filter_append, List.getD_eq_getElem?_getD, List.getElem?_eq_getElem h]
  simp only [Option.getD_some, List.filter_cons, List.filter_nil]
  cases (tl L[k]).isEmpty <;> rfl
theorem fl_len (L : List ByteArray) (k : Nat) : (fl L k).length ≤ k := by
  unfold fl
  have := List.length_filter_le (fun x => !(tl x).isEmpty) (L.take k)
  rw [List.length_take] at this
  omega
theorem fl_mem {L : List ByteArray} {k : Nat} {x : ByteArray} (h : x ∈ fl L k) : x ∈ L ∧ 0 < x.size := by
  unfold fl at h
  rw [List.mem_filter] at h
  refine ⟨List.mem_of_mem_take h.1, ?_⟩
  rw [← tl_len]
  cases hq : tl x with
  | nil => rw [hq] at h; simp at h
  | cons _ _ => simp
theorem tot_mem : ∀ (L : List ByteArray) (x : ByteArray), x ∈ L → x.size ≤ Pt.tot L
  | [], _, h => by cases h
  | y :: r, x, h => by
    rcases List.mem_cons.1 h with rfl | h
    · simp [Pt.tot]; omega
    · have := tot_mem r x h; simp [Pt.tot]; omega
theorem tot_len : ∀ L : List ByteArray, L.length ≤ 0 + Pt.tot L
  | [] => by simp
  | x :: r => by have := tot_len r; simp [Pt.tot]; omega
theorem tl_map_inj {A B : List ByteArray} (h : A.map tl = B.map tl) : A = B := by
  have h2 := congrArg (List.map mk) h
  rw [List.map_map, List.map_map, show (mk ∘ tl) = id from funext mk_tl, List.map_id, List.map_id] at h2
  exact h2
set_option maxRecDepth 100000 in
set_option maxHeartbeats 4000000 in
theorem lgroups_any (L : List ByteArray) (v : Value) (w : World) (hl : L.length ≤ 140737488355328) (hx : ∀ j, (L.getD j ⟨#[]⟩).size ≤ 140737488355328) (h : Pt.Strz w v L) :
    Calls Tryz.prog 3 #[v] w fun e w' => e = .returned (.bool true) ∧ Below w.heap.size w w' := by
  have k1 := alive_any w
  have k2 : ∀ W, Below w.heap.size w W → Calls Tryz.prog 6 #[v] W fun e w' => e = .returned (.bool (decide (20000 < Pt.bg 0 L))) ∧ w' = W := fun W hB => Pt.big_any L v W hl hx (h.below hB)
  by_cases hbig : 20000 < Pt.bg 0 L
  · rw [decide_eq_true hbig] at k2
    go_enter Tryz.func3, Tryz.ntmps3
    go_wp2_with (first | (go_at_call 5; refine k1.mono ?_; rintro e w1 ⟨rfl, hb1⟩) | (go_at_call 6; refine (k2 _ hb1).mono ?_; rintro e w2 ⟨rfl, rfl⟩))
    go_ret
    exact ⟨rfl, hb1⟩
  · rw [decide_eq_false hbig] at k2
    have hbt := Pt.bg_tot L 0 (by omega)
    have hlL : L.length ≤ 20000 := by
      have : L.length ≤ Pt.bg 0 L := by rw [hbt]; exact tot_len L
      omega
    have hsz : ∀ x ∈ L, x.size ≤ 20000 := fun x hx => by have := tot_mem L x hx; omega
    clear hbig hbt hl hx
    obtain ⟨a, cap, hv, hcells⟩ : ∃ a cap, v = .slice a L.length cap ∧ ∀ j, j < L.length → ∃ b off, a = some ⟨b, off, none⟩ ∧ b < w.heap.size ∧ w.cell? ⟨b, off + j, none⟩ = some (.string (L.getD j ⟨#[]⟩)) := by
      rcases h.form with ⟨rfl, a, cap, rfl⟩ | ⟨_, b, off, cap, rfl, h3, h4⟩
      · exact ⟨a, cap, rfl, fun j hj => by simp at hj⟩
      · exact ⟨_, cap, rfl, fun j hj => ⟨b, off, rfl, h3, h4 j hj⟩⟩
    subst hv
    have HC := hide' hcells
    have HSZ := hide' hsz
    clear hcells h hsz
    obtain ⟨i0, hi, hz0, hz1, hz2⟩ := info_parts info9
    go_enter Tryz.func3, Tryz.ntmps3
    go_wp2_with (first | (go_at_call 5; refine k1.mono ?_; rintro e w1 ⟨rfl, hb1⟩) | (go_at_call 6; refine (k2 _ hb1).mono ?_; rintro e w2 ⟨rfl, rfl⟩))
    clear k1 k2
    go_loopw [6, 5] (fun i l wr => ∃ (k : Nat) (O : List ByteArray), k ≤ L.length ∧ i = .int .i64 k ∧ O.length ≤ k ∧ Hid (O = fl L k) ∧ wr.ownsRow w.heap.size 9 1 l O.length (O.map Value.string) ∧ Below w.heap.size w wr) (fun i _ _ => L.length - (intOf i).toNat)
    case atStart => exact ⟨0, [], Nat.zero_le _, rfl, Nat.le_refl _, rfl, World.ownsRow_nil _ _ _ _, hb1⟩
    case round =>
      clear hb1
      obtain ⟨k, O, hk, rfl, hOk, HO0, hrow, hB⟩ := hrel
      obtain ⟨a1, c1, rfl⟩ := row_form hrow
      by_cases hlt : k < L.length
      · obtain ⟨b, off, rfl, hbw, hcc⟩ := HC.out k hlt
        have cc := (hB.cell (p := ⟨b, off + k, none⟩) hbw).trans hcc
        have hx := gd_is HSZ.out k hlt
        have HFN := hide' (fl_next L k hlt)
        generalize L.getD k ⟨#[]⟩ = x at cc hx HFN hcc
        have qn := fun w => name_any x (by omega) w
        have qr : ∀ w, Calls Tryz.prog 8 #[.string x] w fun e w' => e = .returned (.string (nmB x)) ∧ Below w.heap.size w w' := fun w => (rname_any x (by omega) w).mono fun e w' ⟨he, hw⟩ => ⟨he, hw ▸ Below.refl _ _⟩
        generalize nmB x = y at qn qr
        have hpb : O.length + 1 ≤ maxLen := by unfold maxLen; omega
        have hbb : (O.length + 1) * 16 ≤ 140737488355328 := by omega
        cases hxe : (tl x).isEmpty with
        | true =>
          have he' : x.toList.isEmpty = true := by rw [emp_of]; exact hxe
          have HW : Hid (O = fl L (k + 1)) := by
            show _ = _
            rw [HFN.out, hxe, if_pos rfl, List.append_nil]
            exact HO0.out
          clear HFN hxe HO0
          go_wp2
          have hbwr : b < wr.heap.size := Nat.lt_of_lt_of_le hbw hB.size
          have ccg := fun d os => cell_regrown cc d os
          have HCC := hide' cc
          clear cc
          refine wp_region_quiet_below (by kernel_rfl) (by kernel_rfl) ?_
          repeat (go_big_quiet_step (first | (go_at_call 7; exact Calls.regrown_of (qn _)) | (go_at_call 8; exact Calls.regrown_of (qr _))))
          refine wpQuiet_nil ?_
          intro w3 hw3
          have hb3 : Below wr.heap.size wr w3 := by
            obtain ⟨p, rfl⟩ := hw3
            exact below_regrown _ _ _
          have cc3 := (hb3.cell (p := ⟨b, off + k, none⟩) hbwr).trans HCC.out
          have hrow3 := own_below hrow hb3
          have hB3 := hB.trans (hb3.mono hB.size)
          have hsz3 := hB3.size
          clear ccg hw3 hb3 hrow hB qn qr
          have HROW := hide' hrow3
          clear hrow3
          go_wp2
          exact ⟨⟨k + 1, O, by omega, by go_num, by omega, HW, HROW.out, hB3⟩, by simp [intOf]; omega⟩
        | false =>
          have he' : x.toList.isEmpty = false := by rw [emp_of]; exact hxe
          have HW : Hid (O ++ [x] = fl L (k + 1)) := by
            show _ = _
            rw [HFN.out, hxe, if_neg (by decide), ← HO0.out]
          clear HFN hxe HO0
          go_wp2
          have hbwr : b < wr.heap.size := Nat.lt_of_lt_of_le hbw hB.size
          have ccg := fun d os => cell_regrown cc d os
          have HCC := hide' cc
          clear cc
          refine wp_region_quiet_below (by kernel_rfl) (by kernel_rfl) ?_
          repeat (go_big_quiet_step (first | (go_at_call 7; exact Calls.regrown_of (qn _)) | (go_at_call 8; exact Calls.regrown_of (qr _))))
          refine wpQuiet_nil ?_
          intro w3 hw3
          have hb3 : Below wr.heap.size wr w3 := by
            obtain ⟨p, rfl⟩ := hw3
            exact below_regrown _ _ _
          have cc3 := (hb3.cell (p := ⟨b, off + k, none⟩) hbwr).trans HCC.out
          have hrow3 := own_below hrow hb3
          have hB3 := hB.trans (hb3.mono hB.size)
          have hsz3 := hB3.size
          clear ccg hw3 hb3 hrow hB qn qr
          have h2b : ∀ o, w.heap.size ≤ (w3.alloc o).heap.size := fun o => by simp; omega
          go_wp2_with (at_builtin; refine wpList_append_own _ rfl _ _ 22 rfl w.heap.size 9 i0 (.string ⟨#[]⟩) 1 16 Tryz.underlying22 hi hz0 hz1 hz2 rfl (by decide) _ _ _ rfl (hrow3.alloc _) ⟨w3.heap.size, 0, none⟩ 1 1 [.string x] rfl rfl (cell_one_new _ _ _) (by simp [Value.oneCell']) hpb hbb (h2b _) ?_; intro v' w4 hown' hgrow hif; clear hif; obtain ⟨a2, c3, rfl⟩ := row_form hown'; have hB4 := app_below hB3 (by omega) hrow3 hgrow; have HO := hide' hown'; clear hown' hgrow)
          exact ⟨⟨k + 1, O ++ [x], by omega, by go_num, by simp; omega, HW, by rw [List.length_append, List.map_append]; exact HO.out, hB4⟩, by simp [intOf]; omega⟩
      · obtain rfl : k = L.length := by omega
        have hmem : ∀ x ∈ O, x.size ≤ 20000 ∧ 0 < x.size := fun x hx => by
          rw [HO0.out] at hx
          have := fl_mem hx
          exact ⟨HSZ.out x this.1, this.2⟩
        have hS : Pt.Strs wr (.slice a1 O.length c1) O := Pt.Strs.of_row hrow
        have kL := Pt.lent_any O _ wr (by omega) (.inr hS)
        have HS := hide' hS
        have HM := hide' hmem
        clear hrow HO0 hS hmem
        go_wp2_with fail
        refine kL.mono ?_
        rintro e w3 ⟨vf, rfl, hIs, hb3⟩
        obtain ⟨gg, cg, hvf, _⟩ := id hIs
        subst hvf
        have kG := grpg_any O _ w3 (by omega) (fun x hx => by have := HM.out x hx; omega) (.inr hIs.strs)
        have HI3 := hide' hIs
        clear kL hIs
        go_wp2_with fail
        refine kG.mono ?_
        rintro e w4 ⟨vg, P, rfl, hP, hrowP, hb4⟩
        obtain ⟨ag, cgg, rfl⟩ := row_form hrowP
        have hPl : P.length ≤ O.length := by
          have h1 := congrArg List.length hP
          have h2 := grp_len (O.map tl) []
          simp only [List.length_map] at h1 h2
          omega
        have hS4 := (HS.out.below hb3).below hb4
        have kT := Pt.stays_any O _ _ _ w4 (by omega) (HI3.out.below hb4) (.inr hS4)
        have HP := hide' hP
        have HRP := hide' hrowP
        have HS4 := hide' hS4
        have hB3 := hB.trans (hb3.mono hB.size)
        have hB4 := hB3.trans (hb4.mono hB3.size)
        clear kG hP hrowP hS4 hb3 hb4
        go_wp2_with fail
        refine kT.mono ?_
        rintro e w5 ⟨rfl, hb5⟩
        have kR := rgrp_any O _ w5 (by omega) (fun x hx => by have := HM.out x hx; omega) (.inr (HS4.out.below hb5))
        clear kT
        go_wp2_with fail
        refine kR.mono ?_
        rintro e w6 ⟨vr, R, rfl, hR, hrowR, hb6⟩
        obtain ⟨ar, cr, rfl⟩ := row_form hrowR
        obtain rfl : R = P := tl_map_inj (hR.trans HP.out.symm)
        have hSP : Pt.Strs w6 (.slice ag R.length cgg) R := ((Pt.Strs.of_row HRP.out).below hb5).below hb6
        have hSR : Pt.Strs w6 (.slice ar R.length cr) R := Pt.Strs.of_row hrowR
        have kS := Pt.same_anyz R _ _ w6 (by unfold maxLen; omega) (.inr hSP) (.inr hSR)
        have hB5 := hB4.trans (hb5.mono hB4.size)
        have hB6 := hB5.trans (hb6.mono hB5.size)
        clear kR hR hrowR hb6 hb5 hSP hSR
        go_wp2_with fail
        refine kS.mono ?_
        rintro e w7 ⟨rfl, hb7⟩
        go_wp2
        go_ret
        exact ⟨rfl, hB6.trans (hb7.mono hB6.size)⟩
end Go.Proofs.YthkjinhnnilalaaGreatDoor
