/- The contract of the reference's Group. -/
import Derived.Test.YthkjinhnnilalaaGreatDoorRNm
import Derived.Test.YthkjinhnnilalaaGreatDoorGr2
import Derived.Lib.IndexLaws
namespace Go.Proofs.YthkjinhnnilalaaGreatDoor
open Go.RowKit Go.Shelf

theorem idx_last (x : ByteArray) (h0 : 0 < x.size) (W : World) : (Instr.index 9 (.string x) (.int .i64 ((x.size : Int) - 1))).run Tryz.prog W = .ok (.int .u8 ((tl x).getD (x.size - 1) 0).toNat) W := by
  have hk : x.size - 1 < x.size := by omega
  have e : ((x.size : Int) - 1) = ((x.size - 1 : Nat) : Int) := by omega
  rw [e, getD_at x _ hk]
  go_simp
theorem last_eq (x : ByteArray) (h0 : 0 < x.size) : ((((tl x).getD (x.size - 1) 0).toNat : Int) == 41) = endsP (tl x) := by
  rw [ends_last (tl x) (by intro h; have := congrArg List.length h; rw [tl_len] at this; have h9 : x.size = 0 := this; omega), tl_len]
  by_cases h : (tl x).getD (x.size - 1) 0 = 41
  · rw [h]; rfl
  · exact (beq_no _ 41 41 rfl h).trans (beq_eq_false_iff_ne.2 h).symm
theorem tl_ap (a b : ByteArray) : tl (a ++ b) = tl a ++ tl b := by simp [tl]
theorem ix_at (l : Bs) (h : 0 < Lib.indexByte l 40) : l.getD (ix l) 0 = 40 := by
  have h1 := ix_lt l h
  have h2 := (Lib.indexByte_some h1.1).1
  rw [List.getD_eq_getElem?_getD, h2]
  rfl
theorem take_succ_at (l : Bs) (i : Nat) (h : i < l.length) : l.take (i + 1) = l.take i ++ [l.getD i 0] := by
  rw [List.take_succ_eq_append_getElem h, List.getD_eq_getElem?_getD, List.getElem?_eq_getElem h]
  rfl
/-- no word behind k up to m ends a row -/
def noE (L : List ByteArray) (k m : Nat) : Prop := ∀ j, k < j → j < m → endsP (tl (L.getD j ⟨#[]⟩)) = false
theorem no_any (L : List ByteArray) (k : Nat) (h : noE L k L.length) : ((L.map tl).drop (k + 1)).any endsP = false := by
  cases hb : ((L.map tl).drop (k + 1)).any endsP with
  | false => rfl
  | true =>
    obtain ⟨j, h1, h2, h3⟩ := (any_drop L (k + 1)).1 hb
    rw [h j (by omega) h2] at h3
    cases h3
theorem yes_any (L : List ByteArray) (k e : Nat) (hk : k < e) (he : e < L.length) (h : endsP (tl (L.getD e ⟨#[]⟩)) = true) : ((L.map tl).drop (k + 1)).any endsP = true := (any_drop L (k + 1)).2 ⟨e, by omega, he, h⟩
/-- how far the search has come -/
def Srch (L : List ByteArray) (k m : Nat) (en : Value) : Prop := noE L k (m - 1) ∧ (en = .int .i64 (-1) ∧ noE L k m ∨ k < m - 1 ∧ en = .int .i64 ((m - 1 : Nat) : Int) ∧ endsP (tl (L.getD (m - 1) ⟨#[]⟩)) = true)
theorem srch_new (L : List ByteArray) (k : Nat) : Srch L k (k + 1) (.int .i64 (-1)) := ⟨fun j h1 h2 => by omega, .inl ⟨rfl, fun j h1 h2 => by omega⟩⟩
/-- what the row's words make, from the word j on -/
def rest (L : List ByteArray) (A : Bs) (k e j : Nat) : List Bs := if j = k then grp [] ((L.map tl).drop k) else if j ≤ e then grp A ((L.map tl).drop j) else grp [] ((L.map tl).drop (e + 1))
set_option maxRecDepth 100000 in
set_option maxHeartbeats 8000000 in
theorem rgrp_some (L : List ByteArray) (b off cap : Nat) (w : World) (hl : L.length ≤ 100000) (hb : b < w.heap.size) (hs : ∀ j, j < L.length → (L.getD j ⟨#[]⟩).size ≤ 1000000 ∧ 0 < (L.getD j ⟨#[]⟩).size) (hc : ∀ j, j < L.length → w.cell? ⟨b, off + j, none⟩ = some (.string (L.getD j ⟨#[]⟩))) :
    Calls Tryz.prog 13 #[.slice (some ⟨b, off, none⟩) L.length cap] w fun e w' => ∃ (v : Value) (O : List ByteArray), e = .returned v ∧ O.map tl = grp [] (L.map tl) ∧ w'.ownsRow w.heap.size 9 1 v O.length (O.map Value.string) ∧ Below w.heap.size w w' := by
  obtain ⟨i0, hi, hz0, hz1, hz2⟩ := info_parts info9
  obtain ⟨T, hT⟩ : ∃ T, T = grp [] (L.map tl) := ⟨_, rfl⟩
  have HT := hide' hT
  rw [← hT]
  clear hT
  go_enter Tryz.func13, Tryz.ntmps13
  go_wp2
  go_loopw [4, 3] (fun i l wr => ∃ (k : Nat) (O : List ByteArray), k ≤ L.length ∧ i = .int .i64 k ∧ O.length ≤ k ∧ wr.ownsRow w.heap.size 9 1 l O.length (O.map Value.string) ∧ Below w.heap.size w wr ∧ Hid (O.map tl ++ grp [] ((L.map tl).drop k) = T)) (fun i _ _ => L.length - (intOf i).toNat)
  case atStart => exact ⟨0, [], Nat.zero_le _, rfl, Nat.le_refl _, World.ownsRow_nil _ _ _ _, Below.refl _ _, HT.out.symm⟩
  case round =>
    clear HT
    obtain ⟨k, O, hk, rfl, hOk, hrow, hB, HI⟩ := hrel
    obtain ⟨a1, c1, rfl⟩ := row_form hrow
    by_cases hlt : k < L.length
    · have cc := (hB.cell (p := ⟨b, off + k, none⟩) hb).trans (hc k hlt)
      obtain ⟨hx, hx0⟩ := hs k hlt
      have HD := hide' (drop_cons L k hlt)
      obtain ⟨x, hxg⟩ : ∃ x, x = L.getD k ⟨#[]⟩ := ⟨_, rfl⟩
      rw [← hxg] at cc hx hx0 HD
      have HXG := hide' hxg
      have hsz := hB.size
      have HC := hide' hc
      have HS := hide' hs
      have HBB := hide' hb
      have hpb : O.length + 1 ≤ maxLen := by unfold maxLen; omega
      have hbb : (O.length + 1) * 16 ≤ 140737488355328 := by omega
      clear hc hs hb hxg
      have kI := fun w => rindex40_any x hx w
      have hir := ib_lt 40 (tl x)
      rw [tl_len] at hir
      have hbp : begP (tl x) = (decide (0 < Lib.indexByte (tl x) 40) && !endsP (tl x)) := rfl
      have hixe : 0 < Lib.indexByte (tl x) 40 → Lib.indexByte (tl x) 40 = (ix (tl x) : Nat) ∧ 0 < ix (tl x) ∧ ix (tl x) < x.size := fun h => by have := ix_lt (tl x) h; rwa [tl_len] at this
      obtain ⟨r, hrr⟩ : ∃ r, r = Lib.indexByte (tl x) 40 := ⟨_, rfl⟩
      rw [← hrr] at kI hir hbp hixe
      have HR0 := hide' hrr.symm
      clear hrr
      have hin := idx_last x hx0
      have hle := last_eq x hx0
      have hw1 : IntKind.i64.wrap ((x.size : Int) - 1) = (x.size : Int) - 1 := i64_id _ ⟨by omega, by omega⟩
      generalize (((tl x).getD (x.size - 1) 0).toNat : Int) = lc at hin hle
      by_cases hr0 : r ≤ 0
      · have d0 : decide (r ≤ 0) = true := decide_eq_true hr0
        have HG : Hid ((begP (tl x) && ((L.map tl).drop (k + 1)).any endsP) = false) := by
          show _ = _
          rw [hbp, decide_eq_false (by omega)]
          rfl
        clear hbp hixe hin hle hw1 hir
        have HNX : Hid ((O ++ [x]).map tl ++ grp [] ((L.map tl).drop (k + 1)) = T) := by
          show _ = _
          rw [← HI.out, HD.out, grp_word (tl x) _ HG.out]
          simp
        clear HI HD
        go_wp2_with (go_at_call 24; refine (kI _).mono ?_; rintro e w2 ⟨rfl, rfl⟩)
        go_region
        have hrow2 := own_drewN hrow 1
        have hB2 := below_dn hB 1
        have cc2 := (rfl : w2.drew.cell? _ = _).trans cc
        have hsz2 := hB2.size
        rw [show w2.drewN 1 = w2.drew from rfl] at hrow2 hB2 hsz2
        clear hrow hB cc hsz
        generalize w2.drew = wd at hrow2 hB2 cc2 hsz2 ⊢
        have h2b : ∀ o, w.heap.size ≤ (wd.alloc o).heap.size := fun o => by simp; omega
        go_wp2_with (at_builtin; refine wpList_append_own _ rfl _ _ 22 rfl w.heap.size 9 i0 (.string ⟨#[]⟩) 1 16 Tryz.underlying22 hi hz0 hz1 hz2 rfl (by decide) _ _ _ rfl (hrow2.alloc _) ⟨wd.heap.size, 0, none⟩ 1 1 [.string (x)] rfl rfl (cell_one_new _ _ _) (by simp [Value.oneCell']) hpb hbb (h2b _) ?_; intro v' w4 hown' hgrow hif; clear hif; obtain ⟨a2, c3, rfl⟩ := row_form hown'; have hB4 := app_below hB2 (by omega) hrow2 hgrow; have HO := hide' hown'; clear hown' hgrow)
        exact ⟨⟨k + 1, O ++ [x], by omega, by go_num, by simp; omega, by rw [List.length_append, List.map_append]; exact HO.out, hB4, HNX⟩, by simp [intOf]; omega⟩
      · have d0 : decide (r ≤ 0) = false := decide_eq_false hr0
        obtain ⟨hri, hi0, hix⟩ := hixe (by omega)
        have HRI := hide' (HR0.out.trans hri)
        have HRE := hide' hri
        clear hri HR0
        cases he : endsP (tl x) with
        | true =>
          rw [he] at hle hbp
          have HG : Hid ((begP (tl x) && ((L.map tl).drop (k + 1)).any endsP) = false) := by
            show _ = _
            rw [hbp]
            simp
          clear hbp hixe hir hi0 hix
          have HNX : Hid ((O ++ [x]).map tl ++ grp [] ((L.map tl).drop (k + 1)) = T) := by
            show _ = _
            rw [← HI.out, HD.out, grp_word (tl x) _ HG.out]
            simp
          clear HI HD
          go_wp2_with (go_at_call 24; refine (kI _).mono ?_; rintro e w2 ⟨rfl, rfl⟩)
          go_region
          have hrow2 := own_drewN hrow 1
          have hB2 := below_dn hB 1
          have cc2 := (rfl : w2.drew.cell? _ = _).trans cc
          have hsz2 := hB2.size
          rw [show w2.drewN 1 = w2.drew from rfl] at hrow2 hB2 hsz2
          clear hrow hB cc hsz
          generalize w2.drew = wd at hrow2 hB2 cc2 hsz2 ⊢
          have h2b : ∀ o, w.heap.size ≤ (wd.alloc o).heap.size := fun o => by simp; omega
          go_wp2_with (at_builtin; refine wpList_append_own _ rfl _ _ 22 rfl w.heap.size 9 i0 (.string ⟨#[]⟩) 1 16 Tryz.underlying22 hi hz0 hz1 hz2 rfl (by decide) _ _ _ rfl (hrow2.alloc _) ⟨wd.heap.size, 0, none⟩ 1 1 [.string (x)] rfl rfl (cell_one_new _ _ _) (by simp [Value.oneCell']) hpb hbb (h2b _) ?_; intro v' w4 hown' hgrow hif; clear hif; obtain ⟨a2, c3, rfl⟩ := row_form hown'; have hB4 := app_below hB2 (by omega) hrow2 hgrow; have HO := hide' hown'; clear hown' hgrow)
          exact ⟨⟨k + 1, O ++ [x], by omega, by go_num, by simp; omega, by rw [List.length_append, List.map_append]; exact HO.out, hB4, HNX⟩, by simp [intOf]; omega⟩
        | false =>
          rw [he] at hle hbp
          have HBP : Hid (begP (tl x) = true) := by
            show _ = _
            rw [hbp, decide_eq_true (by omega)]
            rfl
          clear hbp hixe hir
          go_wp2_with (go_at_call 24; refine (kI _).mono ?_; rintro e w2 ⟨rfl, rfl⟩)
          go_region
          have hrow2 := own_drewN hrow 1
          have hB2 := below_dn hB 1
          have cc2 := (rfl : w2.drew.cell? _ = _).trans cc
          have hsz2 := hB2.size
          rw [show w2.drewN 1 = w2.drew from rfl] at hrow2 hB2 hsz2
          clear hrow hB cc hsz
          generalize w2.drew = wd at hrow2 hB2 cc2 hsz2 ⊢
          go_wp2
          clear hin hle hw1 d0 kI
          go_loopw [7, 6] (fun n en wz => wz.ownsRow w.heap.size 9 1 (.slice a1 O.length c1) O.length (O.map Value.string) ∧ Below w.heap.size w wz ∧ ∃ m : Nat, k < m ∧ m ≤ L.length ∧ n = .int .i64 m ∧ Srch L k m en) (fun n _ _ => L.length - (intOf n).toNat)
          case atStart => exact ⟨hrow2, hB2, k + 1, by omega, by omega, by go_num, srch_new L k⟩
          case round =>
            clear hrow2 hB2 cc2 hsz2
            obtain ⟨hrow2, hB2, m, hkm, hml, rfl, hH⟩ := hrel
            have cc2 := (hB2.cell (p := ⟨b, off + k, none⟩) HBB.out).trans (HC.out k hlt)
            rw [← HXG.out] at cc2
            have hsz2 := hB2.size
            obtain ⟨hn0, hen⟩ := hH
            rcases hen with ⟨rfl, hn⟩ | ⟨hke, rfl, hee⟩
            · have HN := hide' hn
              clear hn hn0
              by_cases hmt : m < L.length
              · have cm := (hB2.cell (p := ⟨b, off + m, none⟩) HBB.out).trans (HC.out m hmt)
                obtain ⟨hy, hy0⟩ := HS.out m hmt
                obtain ⟨y, hyg⟩ : ∃ y, y = L.getD m ⟨#[]⟩ := ⟨_, rfl⟩
                rw [← hyg] at cm hy hy0
                have hin := idx_last y hy0
                have hle := last_eq y hy0
                have hw1 : IntKind.i64.wrap ((y.size : Int) - 1) = (y.size : Int) - 1 := i64_id _ ⟨by omega, by omega⟩
                generalize (((tl y).getD (y.size - 1) 0).toNat : Int) = lc at hin hle
                cases hey : endsP (tl y) with
                | true =>
                  rw [hey] at hle
                  have HEY : Srch L k (m + 1) (.int .i64 (m : Int)) := ⟨HN.out, .inr ⟨hkm, rfl, by rw [show m + 1 - 1 = m from rfl, ← hyg]; exact hey⟩⟩
                  have hrow3 := own_drewN hrow2 1
                  have hB3 := below_dn hB2 1
                  have HROW3 := hide' hrow3
                  clear hey hyg hrow3 hrow2
                  go_wp2
                  go_region
                  go_wp2
                  exact ⟨⟨HROW3.out, hB3, m + 1, by omega, by omega, by go_num, HEY⟩, by simp [intOf]; omega⟩
                | false =>
                  rw [hey] at hle
                  have HEY : Srch L k (m + 1) (.int .i64 (-1)) := ⟨HN.out, .inl ⟨rfl, fun j h1 h2 => by
                    by_cases e : j = m
                    · subst e; rw [← hyg]; exact hey
                    · exact HN.out j h1 (by omega)⟩⟩
                  have hrow3 := own_drewN hrow2 1
                  have hB3 := below_dn hB2 1
                  have HROW3 := hide' hrow3
                  clear hey hyg hrow3 hrow2
                  go_wp2
                  go_region
                  go_wp2
                  exact ⟨⟨HROW3.out, hB3, m + 1, by omega, by omega, by go_num, HEY⟩, by simp [intOf]; omega⟩
              · obtain rfl : m = L.length := by omega
                have HG : Hid ((begP (tl x) && ((L.map tl).drop (k + 1)).any endsP) = false) := by
                  show _ = _
                  rw [no_any L k HN.out, Bool.and_false]
                clear HN
                have HNX : Hid ((O ++ [x]).map tl ++ grp [] ((L.map tl).drop (k + 1)) = T) := by
                  show _ = _
                  rw [← HI.out, HD.out, grp_word (tl x) _ HG.out]
                  simp
                clear HI HD
                have h2b : ∀ o, w.heap.size ≤ (wr.alloc o).heap.size := fun o => by simp; omega
                go_wp2_with (at_builtin; refine wpList_append_own _ rfl _ _ 22 rfl w.heap.size 9 i0 (.string ⟨#[]⟩) 1 16 Tryz.underlying22 hi hz0 hz1 hz2 rfl (by decide) _ _ _ rfl (hrow2.alloc _) ⟨wr.heap.size, 0, none⟩ 1 1 [.string (x)] rfl rfl (cell_one_new _ _ _) (by simp [Value.oneCell']) hpb hbb (h2b _) ?_; intro v' w4 hown' hgrow hif; clear hif; obtain ⟨a2, c3, rfl⟩ := row_form hown'; have hB4 := app_below hB2 (by omega) hrow2 hgrow; have HO := hide' hown'; clear hown' hgrow)
                exact ⟨⟨k + 1, O ++ [x], by omega, by go_num, by simp; omega, by rw [List.length_append, List.map_append]; exact HO.out, hB4, HNX⟩, by simp [intOf]; omega⟩
            · obtain ⟨e, rfl⟩ : ∃ e, m = e + 1 := ⟨m - 1, by omega⟩
              rw [show e + 1 - 1 = e from rfl] at hke hee hn0
              rw [show e + 1 - 1 = e from rfl]
              obtain rfl := HRE.out
              generalize hi00 : ix (tl x) = i0' at hi0 hix ⊢
              have h40 : (tl x).getD i0' 0 = 40 := by
                have := ix_at (tl x) (by rw [show Lib.indexByte (tl x) 40 = (ix (tl x) : Nat) from HRI.out, hi00]; omega)
                rwa [hi00] at this
              have hBG := HBP.out
              have hYA := yes_any L k e hke (by omega) hee
              have hgb := grp_begin (tl x) ((L.map tl).drop (k + 1)) hBG hYA
              rw [hi00] at hgb
              obtain ⟨Hdd, hHd⟩ : ∃ Hdd, Hdd = x.extract 0 (i0' + 1) := ⟨_, rfl⟩
              have sH := sl_to x (i0' + 1) (by omega)
              rw [← hHd, show ((i0' + 1 : Nat) : Int) = (i0' : Int) + 1 by omega] at sH
              have hHt : tl Hdd = (tl x).take i0' ++ [40] := by
                rw [hHd, ext_take, tl_mk, take_succ_at (tl x) i0' (by rw [tl_len]; omega), h40]
              have hHs : Hdd.size ≤ 1000000 := by rw [hHd, ByteArray.size_extract]; omega
              obtain ⟨y0, hy0⟩ : ∃ y0, y0 = x.extract (i0' + 1) x.size := ⟨_, rfl⟩
              have sF := sl_from x (i0' + 1) (by omega)
              rw [← hy0, show ((i0' + 1 : Nat) : Int) = (i0' : Int) + 1 by omega] at sF
              have hyt : tl y0 = (tl x).drop (i0' + 1) := by rw [hy0, ext_drop, tl_mk]
              have hys : y0.size ≤ 1000000 := by rw [hy0, ByteArray.size_extract]; omega
              have hAne : ((tl x).take i0').isEmpty = false := by
                have : ((tl x).take i0').length = i0' := by rw [List.length_take, tl_len]; omega
                cases hq : (tl x).take i0' with
                | nil => rw [hq] at this; simp at this; omega
                | cons _ _ => rfl
              rw [← hyt] at hgb
              generalize (tl x).take i0' = A at hHt hAne hgb
              have hwi : IntKind.i64.wrap ((i0' : Int) + 1) = (i0' : Int) + 1 := i64_id _ ⟨by omega, by omega⟩
              have HGB := hide' hgb
              have HAN := hide' hAne
              have HHT := hide' hHt
              have HYT := hide' hyt
              have HEE := hide' hee
              have HNN := hide' hn0
              have de : decide ((e : Int) < 0) = false := decide_eq_false (by omega)
              have hHR := HI.out
              have HST : Hid (O.map tl ++ rest L A k e k = T) := by
                show _ = _
                unfold rest
                rw [if_pos rfl]
                exact hHR
              have HRW := hide' hrow2
              clear hgb hAne hHt hyt hee hn0 hHd hy0 hBG hYA h40 hHR HI hi00 hrow2 HBP HRI
              rcases (by omega : e + 1 < L.length ∨ e + 1 = L.length) with hE | hE
              all_goals
                first
                | (have dE : decide (e + 1 < L.length) = true := decide_eq_true hE
                   have dF : decide ((e : Int) + 1 < (L.length : Int)) = true := decide_eq_true (by omega))
                | (have dE : decide (e + 1 < L.length) = false := decide_eq_false (by omega)
                   have dF : decide ((e : Int) + 1 < (L.length : Int)) = false := decide_eq_false (by omega))
                have HE := hide' hE
                clear hE
                go_wp2
                have hel : e < L.length := by have := HE.out; omega
                clear dE dF
                go_loopw [9, 3] (fun n l wz => ∃ (j : Nat) (P : List ByteArray), k ≤ j ∧ j ≤ e + 1 ∧ n = .int .i64 j ∧ P.length ≤ j ∧ wz.ownsRow w.heap.size 9 1 l P.length (P.map Value.string) ∧ Below w.heap.size w wz ∧ Hid (P.map tl ++ rest L A k e j = T)) (fun n _ _ => e + 1 - (intOf n).toNat)
                case atStart => exact ⟨k, O, Nat.le_refl _, by omega, rfl, by omega, HRW.out, hB2, HST⟩
                case round =>
                  clear HST sH
                  obtain ⟨j, P, hkj, hje, rfl, hPj, hrow', hBz, HJ⟩ := hrel
                  obtain ⟨a5, c5, rfl⟩ := row_form hrow'
                  have hpb : P.length + 1 ≤ maxLen := by unfold maxLen; omega
                  have hbb : (P.length + 1) * 16 ≤ 140737488355328 := by omega
                  have hszz := hBz.size
                  have h2b : ∀ o, w.heap.size ≤ (wr.alloc o).heap.size := fun o => by simp; omega
                  by_cases hjle : j ≤ e
                  · have dj : decide ((j : Int) ≤ (e : Int)) = true := decide_eq_true (by omega)
                    have cj := (hBz.cell (p := ⟨b, off + j, none⟩) HBB.out).trans (HC.out j (by omega))
                    obtain ⟨hy, hy1⟩ := HS.out j (by omega)
                    have hdj := drop_cons L j (by omega)
                    by_cases hjk : j = k
                    · subst hjk
                      rw [← HXG.out] at cj
                      have bk : ((j : Int) == (j : Int)) = true := by simp
                      have be : ((j : Int) == (e : Int)) = false := beq_eq_false_iff_ne.2 (by omega)
                      have HQ : Hid (P.map tl ++ (emit A (tl y0) ++ rest L A j e (j + 1)) = T) := by
                        show _ = _
                        rw [← HJ.out]
                        unfold rest
                        rw [if_pos rfl, if_neg (by omega), if_pos (by omega), HD.out, HGB.out]
                      clear hdj HJ hy hy1
                      obtain ⟨X1, e1⟩ : ∃ X1, Hdd ++ y0 = X1 := ⟨_, rfl⟩
                      obtain ⟨X, e2⟩ : ∃ X, X1 ++ (⟨#[41]⟩ : ByteArray) = X := ⟨_, rfl⟩
                      have z1 : Hdd.size + y0.size ≤ 3000000 := by omega
                      have z2 : X1.size + (⟨#[41]⟩ : ByteArray).size ≤ 4000000 := by rw [← e1, ByteArray.size_append, show (⟨#[41]⟩ : ByteArray).size = 1 from rfl]; omega
                      have hXt : tl X = A ++ (40 :: (tl y0 ++ [41])) := by rw [← e2, ← e1, tl_ap, tl_ap, HHT.out]; simp [tl]
                      cases hme : (tl y0).isEmpty with
                      | true =>
                        have he' : y0.toList.isEmpty = true := by rw [emp_of]; exact hme
                        have HW : Hid (P.map tl ++ rest L A j e (j + 1) = T) := by
                          show _ = _
                          rw [← HQ.out, show emit A (tl y0) = [] by unfold emit; rw [if_pos hme], List.nil_append]
                        have HRR := hide' hrow'
                        clear HQ hme hXt e1 e2 z1 z2 hrow'
                        go_wp2
                        exact ⟨⟨j + 1, P, by omega, by omega, by go_num, by omega, HRR.out, hBz, HW⟩, by first | (simp [intOf]; done) | (simp [intOf]; omega)⟩
                      | false =>
                        have he' : y0.toList.isEmpty = false := by rw [emp_of]; exact hme
                        have HW : Hid ((P ++ [X]).map tl ++ rest L A j e (j + 1) = T) := by
                          show _ = _
                          rw [← HQ.out, show emit A (tl y0) = [tl X] by unfold emit; rw [if_neg (by rw [hme]; decide), hXt]]
                          simp
                        clear HQ hme hXt
                        go_wp2_with (at_builtin; refine wpList_append_own _ rfl _ _ 22 rfl w.heap.size 9 i0 (.string ⟨#[]⟩) 1 16 Tryz.underlying22 hi hz0 hz1 hz2 rfl (by decide) _ _ _ rfl (hrow'.alloc _) ⟨wr.heap.size, 0, none⟩ 1 1 [.string (X)] rfl rfl (cell_one_new _ _ _) (by simp [Value.oneCell']) hpb hbb (h2b _) ?_; intro v' w4 hown' hgrow hif; clear hif; obtain ⟨a2, c3, rfl⟩ := row_form hown'; have hB4 := app_below hBz (by omega) hrow' hgrow; have HO := hide' hown'; clear hown' hgrow)
                        exact ⟨⟨j + 1, P ++ [X], by omega, by omega, by go_num, by simp; omega, by rw [List.length_append, List.map_append]; exact HO.out, hB4, HW⟩, by first | (simp [intOf]; done) | (simp [intOf]; omega)⟩
                    · have bk : ((j : Int) == (k : Int)) = false := beq_eq_false_iff_ne.2 (by omega)
                      obtain ⟨y, hyg⟩ : ∃ y, y = L.getD j ⟨#[]⟩ := ⟨_, rfl⟩
                      rw [← hyg] at cj hy hy1 hdj
                      by_cases hjee : j = e
                      · subst hjee
                        have be : ((j : Int) == (j : Int)) = true := by simp
                        have hend : endsP (tl y) = true := by rw [hyg]; exact HEE.out
                        obtain ⟨z, hz⟩ : ∃ z, z = y.extract 0 (y.size - 1) := ⟨_, rfl⟩
                        have sZ := sl_to y (y.size - 1) (by omega)
                        rw [← hz, show ((y.size - 1 : Nat) : Int) = (y.size : Int) - 1 by omega] at sZ
                        have hzt : tl z = cutS (tl y) := by
                          unfold cutS
                          rw [hz, ext_take, tl_mk, hend, tl_len]
                          rfl
                        have hzs : z.size ≤ 1000000 := by rw [hz, ByteArray.size_extract]; omega
                        have hwy : IntKind.i64.wrap ((y.size : Int) - 1) = (y.size : Int) - 1 := i64_id _ ⟨by omega, by omega⟩
                        have HQ : Hid (P.map tl ++ (emit A (tl z) ++ rest L A k j (j + 1)) = T) := by
                          show _ = _
                          rw [← HJ.out]
                          unfold rest
                          rw [if_neg (by omega), if_neg (by omega), if_neg hjk, if_pos (Nat.le_refl _), hdj, grp_in A (tl y) _ HAN.out, hzt, hend, if_pos rfl]
                        clear hdj HJ hend hzt hz hyg
                        obtain ⟨X1, e1⟩ : ∃ X1, Hdd ++ z = X1 := ⟨_, rfl⟩
                        obtain ⟨X, e2⟩ : ∃ X, X1 ++ (⟨#[41]⟩ : ByteArray) = X := ⟨_, rfl⟩
                        have z1 : Hdd.size + z.size ≤ 3000000 := by omega
                        have z2 : X1.size + (⟨#[41]⟩ : ByteArray).size ≤ 4000000 := by rw [← e1, ByteArray.size_append, show (⟨#[41]⟩ : ByteArray).size = 1 from rfl]; omega
                        have hXt : tl X = A ++ (40 :: (tl z ++ [41])) := by rw [← e2, ← e1, tl_ap, tl_ap, HHT.out]; simp [tl]
                        cases hme : (tl z).isEmpty with
                        | true =>
                          have he' : z.toList.isEmpty = true := by rw [emp_of]; exact hme
                          have HW : Hid (P.map tl ++ rest L A k j (j + 1) = T) := by
                            show _ = _
                            rw [← HQ.out, show emit A (tl z) = [] by unfold emit; rw [if_pos hme], List.nil_append]
                          have HRR := hide' hrow'
                          clear HQ hme hXt e1 e2 z1 z2 hrow'
                          go_wp2
                          exact ⟨⟨j + 1, P, by omega, by omega, by go_num, by omega, HRR.out, hBz, HW⟩, by first | (simp [intOf]; done) | (simp [intOf]; omega)⟩
                        | false =>
                          have he' : z.toList.isEmpty = false := by rw [emp_of]; exact hme
                          have HW : Hid ((P ++ [X]).map tl ++ rest L A k j (j + 1) = T) := by
                            show _ = _
                            rw [← HQ.out, show emit A (tl z) = [tl X] by unfold emit; rw [if_neg (by rw [hme]; decide), hXt]]
                            simp
                          clear HQ hme hXt
                          go_wp2_with (at_builtin; refine wpList_append_own _ rfl _ _ 22 rfl w.heap.size 9 i0 (.string ⟨#[]⟩) 1 16 Tryz.underlying22 hi hz0 hz1 hz2 rfl (by decide) _ _ _ rfl (hrow'.alloc _) ⟨wr.heap.size, 0, none⟩ 1 1 [.string (X)] rfl rfl (cell_one_new _ _ _) (by simp [Value.oneCell']) hpb hbb (h2b _) ?_; intro v' w4 hown' hgrow hif; clear hif; obtain ⟨a2, c3, rfl⟩ := row_form hown'; have hB4 := app_below hBz (by omega) hrow' hgrow; have HO := hide' hown'; clear hown' hgrow)
                          exact ⟨⟨j + 1, P ++ [X], by omega, by omega, by go_num, by simp; omega, by rw [List.length_append, List.map_append]; exact HO.out, hB4, HW⟩, by first | (simp [intOf]; done) | (simp [intOf]; omega)⟩
                      · have be : ((j : Int) == (e : Int)) = false := beq_eq_false_iff_ne.2 (by omega)
                        have hend : endsP (tl y) = false := by rw [hyg]; exact HNN.out j (by omega) (by omega)
                        have HQ : Hid (P.map tl ++ (emit A (tl y) ++ rest L A k e (j + 1)) = T) := by
                          show _ = _
                          rw [← HJ.out]
                          unfold rest
                          rw [if_neg (by omega), if_pos (by omega), if_neg hjk, if_pos (by omega), hdj, grp_in A (tl y) _ HAN.out, hend, if_neg (by decide), show cutS (tl y) = tl y by unfold cutS; rw [hend]; rfl]
                        clear hdj HJ hend hyg
                        obtain ⟨X1, e1⟩ : ∃ X1, Hdd ++ y = X1 := ⟨_, rfl⟩
                        obtain ⟨X, e2⟩ : ∃ X, X1 ++ (⟨#[41]⟩ : ByteArray) = X := ⟨_, rfl⟩
                        have z1 : Hdd.size + y.size ≤ 3000000 := by omega
                        have z2 : X1.size + (⟨#[41]⟩ : ByteArray).size ≤ 4000000 := by rw [← e1, ByteArray.size_append, show (⟨#[41]⟩ : ByteArray).size = 1 from rfl]; omega
                        have hXt : tl X = A ++ (40 :: (tl y ++ [41])) := by rw [← e2, ← e1, tl_ap, tl_ap, HHT.out]; simp [tl]
                        cases hme : (tl y).isEmpty with
                        | true =>
                          have he' : y.toList.isEmpty = true := by rw [emp_of]; exact hme
                          have HW : Hid (P.map tl ++ rest L A k e (j + 1) = T) := by
                            show _ = _
                            rw [← HQ.out, show emit A (tl y) = [] by unfold emit; rw [if_pos hme], List.nil_append]
                          have HRR := hide' hrow'
                          clear HQ hme hXt e1 e2 z1 z2 hrow'
                          go_wp2
                          exact ⟨⟨j + 1, P, by omega, by omega, by go_num, by omega, HRR.out, hBz, HW⟩, by first | (simp [intOf]; done) | (simp [intOf]; omega)⟩
                        | false =>
                          have he' : y.toList.isEmpty = false := by rw [emp_of]; exact hme
                          have HW : Hid ((P ++ [X]).map tl ++ rest L A k e (j + 1) = T) := by
                            show _ = _
                            rw [← HQ.out, show emit A (tl y) = [tl X] by unfold emit; rw [if_neg (by rw [hme]; decide), hXt]]
                            simp
                          clear HQ hme hXt
                          go_wp2_with (at_builtin; refine wpList_append_own _ rfl _ _ 22 rfl w.heap.size 9 i0 (.string ⟨#[]⟩) 1 16 Tryz.underlying22 hi hz0 hz1 hz2 rfl (by decide) _ _ _ rfl (hrow'.alloc _) ⟨wr.heap.size, 0, none⟩ 1 1 [.string (X)] rfl rfl (cell_one_new _ _ _) (by simp [Value.oneCell']) hpb hbb (h2b _) ?_; intro v' w4 hown' hgrow hif; clear hif; obtain ⟨a2, c3, rfl⟩ := row_form hown'; have hB4 := app_below hBz (by omega) hrow' hgrow; have HO := hide' hown'; clear hown' hgrow)
                          exact ⟨⟨j + 1, P ++ [X], by omega, by omega, by go_num, by simp; omega, by rw [List.length_append, List.map_append]; exact HO.out, hB4, HW⟩, by first | (simp [intOf]; done) | (simp [intOf]; omega)⟩
                  · obtain rfl : j = e + 1 := by omega
                    have dj : decide (((e + 1 : Nat) : Int) ≤ (e : Int)) = false := decide_eq_false (by omega)
                    have HQ : Hid (P.map tl ++ grp [] ((L.map tl).drop (e + 1)) = T) := by
                      show _ = _
                      rw [← HJ.out]
                      unfold rest
                      rw [if_neg (by omega), if_neg (by omega)]
                    have HRR := hide' hrow'
                    have hwe : IntKind.i64.wrap ((e : Int) + 1) = (e : Int) + 1 := i64_id _ ⟨by omega, by omega⟩
                    clear hrow' HJ
                    go_wp2
                    exact ⟨⟨e + 1, P, by omega, by go_num, by omega, HRR.out, hBz, HQ⟩, by first | (simp [intOf]; done) | (simp [intOf]; omega)⟩
    · obtain rfl : k = L.length := by omega
      have HF : Hid (O.map tl = T) := by
        show _ = _
        rw [← HI.out, List.drop_eq_nil_of_le (by rw [List.length_map]; exact Nat.le_refl _), grp_nil, List.append_nil]
      have HO := hide' hrow
      clear hrow hc hs HI
      go_wp2
      go_ret
      exact ⟨_, _, rfl, HF.out, HO.out, hB⟩
end Go.Proofs.YthkjinhnnilalaaGreatDoor
