import Derived.Test.YtabmnkddmdffkaaGreatDoorARChk
import Derived.Test.YtabmnkddmdffkaaGreatDoorARSz
import Derived.Test.YtabmnkddmdffkaaGreatDoorARFloat
import Derived.Laws.MakeOwn
namespace Go.Proofs.YtabmnkddmdffkaaGreatDoor.Arc
open Go.RowKit Go.Maps Go.Shelf
def WrAt (ms : List Mv) (w : World) (r : Ending) (w' : World) : Prop :=
 Below w.heap.size w w' ∧ ((wrongR ms = 0 ∧ ∃ v, r = .returned (.tuple #[v, .nilIface]) ∧ Dat w' v (archB ms) ∧ OwnB w.heap.size v) ∨ (wrongR ms ≠ 0 ∧ ∃ e, r = .returned (.tuple #[.slice none 0 0, e]) ∧ IsE w' e (wrongR ms)))
theorem wrong_zero {ms : List Mv} (h : wrongR ms = 0) : ms.length ≤ 5000 ∧ lenA ms ≤ 65536 ∧ ms.all okM = true := by
 unfold wrongR at h
 split at h
 ·cases h
 ·rename_i h1
  split at h
  ·rename_i h2; exact ⟨by omega, by omega, h2⟩
  ·cases h
theorem dat_made {W : World} {c : Nat} {w' : World} (h : w'.ownsRow W.heap.size 5 1 (.slice (some ⟨W.heap.size, 0, none⟩) 0 c) 0 []) : Dat w' (.slice (some ⟨W.heap.size, 0, none⟩) 0 c) [] := by
 rcases h.2 with ⟨e, _⟩ | ⟨g, cap, cur, e, h1, h2, h3, h4, h5, h6⟩
 ·cases e
 ·cases e
  exact .inr ⟨_, _, cur, rfl, h2, Nat.zero_le _, by omega, h4, by simp [Lib.byteCells]⟩
theorem cat_mk (a b : Bs) : mk a ++ mk b = mk (a ++ b) := ByteArray.ext (by rw [ByteArray.data_append]; simp)
structure PmC (b : Nat) (t : Int) (dv : Value) (w : World) : Prop where
 c1 : w.cell? ⟨b, 1, none⟩ = some (.int .i64 t)
 c2 : w.cell? ⟨b, 2, none⟩ = some dv
theorem PmC.below {b : Nat} {t : Int} {dv : Value} {w w' : World} (h : PmC b t dv w) (hb : Below w.heap.size w w') (h1 : b < w.heap.size) : PmC b t dv w' :=
 ⟨(hb.cell (p := ⟨b, 1, none⟩) h1).trans h.c1, (hb.cell (p := ⟨b, 2, none⟩) h1).trans h.c2⟩
theorem cols_new (W : World) (a b c d e f : Bs) : Cols (W.alloc (.cells #[.string (mk a), .string (mk b), .string (mk c), .string (mk d), .string (mk e), .string (mk f)] 9)) W.heap.size [a, b, c, d, e, f] := by
 refine ⟨_, alloc_new _ _, fun j x hj => ?_⟩
 rcases j with _ | _ | _ | _ | _ | _ | j <;> simp at hj ⊢ <;> first | exact hj.symm ▸ rfl | skip
 all_goals rw [hj]
set_option maxRecDepth 100000 in
set_option maxHeartbeats 8000000 in
theorem written_any' (sa : Option Addr) (cap : Nat) (ms : List Mv) (w : World) (hM : Mems w (.slice sa ms.length cap) ms) (hsa : ms ≠ [] → ∃ g o, sa = some ⟨g, o, none⟩ ∧ MRow w g o ms) (hr : ∀ m ∈ ms, Rds w m.dv m.data) (hf : Fine ms) (hE : Env w) (h11 : 10 ≤ w.heap.size) :
  Calls Tryz.prog 145 #[.slice sa ms.length cap] w fun r w' => WrAt ms w r w' := by
 have qc := check_any _ ms w hM hf
 go_enter Tryz.func145, Tryz.ntmps145
 go_wp2_with fail
 refine qc.mono ?_
 rintro r w1 ⟨⟨ev, rfl, hev⟩, hb1⟩
 clear qc
 rcases hev with ⟨hz, rfl⟩ | ⟨hz, pb, p, rfl, hpb⟩
 ·obtain ⟨hl5, hl6, hall⟩ := wrong_zero hz
  obtain ⟨hwD, hwT, hdl⟩ := wtD_le hl6
  have q1 := length_any _ ms w1 (hM.below hb1) hf.1 hf.2.1
  go_wp2_with fail
  refine q1.mono ?_
  rintro r w2 ⟨rfl, hb2⟩
  clear q1
  have hB2 := hb1.trans (hb2.mono hb1.size)
  obtain ⟨inf, hi, hz0, hz1, hz2⟩ := info_parts info5
  obtain ⟨w3, hmk, hown3, hg3⟩ := run_make_own (P := Tryz.prog) w2 w2.heap.size 57 5 inf (.int .u8 0) 1 Tryz.underlying57 hi hz0 hz1 .i64 .i64 (lenA ms) (by rw [hz2]; omega) (by unfold maxLen; omega) (Nat.le_refl _)
  have hD3 := dat_made hown3
  have hb3 : Below w2.heap.size w2 w3 := ⟨hg3.os, hg3.tape, hg3.output, hg3.size, fun k hk => hg3.block k hk (by simp)⟩
  have hB3 := hB2.trans (hb3.mono hB2.size)
  have hO3 : OwnB w.heap.size (.slice (some ⟨w2.heap.size, 0, none⟩) 0 (lenA ms)) := fun g hg => by cases hg; exact hB2.size
  clear hi hz0 hz1 hz2 hown3 hg3
  have HM := hide' (And.intro hM (And.intro hsa (And.intro hr (And.intro hf (And.intro hall hdl)))))
  clear hM hsa hr hf hall hdl
  go_wp2_with (at_builtin; refine wpList_append_str _ rfl _ _ rfl rfl rfl hD3 (by decide) ?_)
  intro v4 w4 hD4 hg4 ho4
  have hD4 : Dat w4 v4 magicB := hD4
  have hO4 : OwnB w.heap.size v4 := hO3.step hB3.size ho4
  have hB4 := below_own hB3 hO3 hg4 hB3.size
  have q5 := table_any _ ms w4 (HM.out.1.below hB4) HM.out.2.2.2.1.1 (by omega)
  clear hmk
  go_wp2_with fail
  refine q5.mono ?_
  rintro r w5 ⟨⟨tv, rfl, hT5, hTO⟩, hb5⟩
  clear q5
  have hs4 := hB4.size
  have hB5 := hB4.trans (hb5.mono hs4)
  have hD5 := hD4.kept fun g hg => hb5.block g (hD4.lt g hg)
  have hTL := tbl_len ms
  obtain ⟨ta, tc, htv⟩ := hT5.len
  rw [hTL] at htv
  subst htv
  by_cases htp : 0 < sumM wtT ms
  ·have k1 : (0 : Int) < (sumM wtT ms : Nat) := by omega
   have hTB : tableB ms = headB [47, 47] [] [] [] [] (dec (sumM wtT ms : Nat)) ++ dataB (tbl ms) := by unfold tableB; rw [hTL, if_pos htp]
   have q6 := decimal_any (sumM wtT ms : Nat) (by omega) (by omega) w5 (hE.keep (hB5.mono h11) (by omega))
   go_wp2_with fail
   refine q6.mono ?_
   rintro r w6 ⟨rfl, hb6⟩
   clear q6
   have hs5 := hB5.size
   have hB6 := hB5.trans (hb6.mono hs5)
   have hb7 : Below w6.heap.size w6 (w6.alloc (.cells #[.string (mk [47, 47]), .string (mk []), .string (mk []), .string (mk []), .string (mk []), .string (mk (dec (sumM wtT ms : Nat)))] 9)) := (Below.refl _ _).alloc (Nat.le_refl _) _
   have hB7 := hB6.trans (hb7.mono hB6.size)
   have hC7 := cols_new w6 [47, 47] [] [] [] [] (dec (sumM wtT ms : Nat))
   have hD7 := (hD5.kept fun g hg => hb6.block g (hD5.lt g hg)).kept fun g hg => hb7.block g (Nat.lt_of_lt_of_le (hD5.lt g hg) hb6.size)
   have hdl7 := dec_small (sumM wtT ms) hwT
   have q7 := ahead_any v4 magicB w6.heap.size 6 _ _ hD7 (fun g hg => Nat.le_trans h11 (hO4 g hg)) (Nat.le_trans h11 hB7.size) (hE.keep (hB7.mono h11) (by omega)) hC7 rfl (by
    intro c hc
    simp only [List.mem_cons, List.not_mem_nil, or_false] at hc
    rcases hc with rfl | rfl | rfl | rfl | rfl | rfl <;> first | omega | simp) (by decide)
   rw [← headB_all] at q7
   go_wp2_with fail
   refine Calls.mono q7 ?_
   rintro r w8 ⟨v8, rfl, hD8, hG8⟩
   clear q7
   have hB8 : Below w.heap.size w w8 := hB7.trans (hG8.below hB7.size hO4)
   have hO8 : OwnB w.heap.size v8 := hG8.own hB7.size hO4
   have hT8 : Dat w8 (.slice ta (sumM wtT ms) tc) (tbl ms) := by
    have hT7 := (hT5.kept fun g hg => hb6.block g (hT5.lt g hg)).kept fun g hg => hb7.block g (Nat.lt_of_lt_of_le (hT5.lt g hg) hb6.size)
    refine hT7.kept fun g hg => hG8.tr.block g (hT7.lt g hg) fun e => ?_
    have h1 := hTO g hg
    have h2 := hD4.lt g e
    omega
   have hln8 : (magicB ++ headB [47, 47] [] [] [] [] (dec (sumM wtT ms : Nat))).length + (tbl ms).length ≤ 1000000000 := by
    rw [List.length_append, head_length (by simp) (by simp) (by simp) (by simp) (by simp) (by omega), hTL]
    show 8 + 60 + _ ≤ _
    omega
   have q9 := adata_any v8 (.slice ta (sumM wtT ms) tc) _ (tbl ms) w8 hD8 hT8.rds hln8
   rw [List.append_assoc, ← hTB] at q9
   go_wp2_with fail
   refine q9.mono ?_
   rintro r w9 ⟨v9, rfl, hDs, hG9⟩
   clear q9
   have hOs : OwnB w.heap.size v9 := hG9.own hB8.size hO8
   have hBs : Below w.heap.size w w9 := hB8.trans (hG9.below hB8.size hO8)
   clear hTB hT5 hTO hTL hD4 hg4 ho4 hB4 hb5 hB3 hD3 hO3 hb3 hb2 hb1 hB2 hD5 hO4 hB5 hD8 hT8 hG8 hG9 hC7 hD7 hB7 hb7 hB6 hb6 hB8 hO8 hln8
   go_wp2
   go_loopw [5, 7, 9, 10, 36] (fun b p _ _ i wr => ∃ k : Nat, k ≤ ms.length ∧ i = .int .i64 k ∧ p = .int .i64 (sumM wtT (ms.take k) : Nat) ∧ Dat wr b (magicB ++ tableB ms ++ bodyB 0 (ms.take k)) ∧ OwnB w.heap.size b ∧ Below w.heap.size w wr) (fun _ _ _ _ i _ => ms.length - (intOf i).toNat)
   case atStart => exact ⟨0, by omega, rfl, rfl, by simpa [bodyB] using hDs, hOs, hBs⟩
   case round =>
    obtain ⟨k, hk, rfl, rfl, hDk, hOk, hBk⟩ := hrel
    by_cases hkl : k < ms.length
    ·have k2 : (k : Int) < ms.length := by omega
     obtain ⟨m, hm⟩ : ∃ m, ms[k]? = some m := ⟨_, List.getElem?_eq_getElem hkl⟩
     have hmem := List.mem_of_getElem? hm
     obtain ⟨hM, hsa, hr, hf, hall, hdl⟩ := HM.out
     obtain ⟨g, o, hse, hrow⟩ := hsa (fun e => by rw [e] at hkl; simp at hkl)
     subst hse
     have hR := hrow.below hBk
     have d0 := hR.c0 k m hm
     have d1 := hR.c1 k m hm
     have d2 := hR.c2 k m hm
     have hrd := (hr m hmem).below hBk
     obtain ⟨da, dc, hdv⟩ := hrd.len
     rw [hdv] at d2 hrd
     have hok : okM m = true := List.all_eq_true.1 hall m hmem
     have hml := hdl m hmem
     have hpk := sumM_take_le wtT ms k
     have hbt := bodyB_take hm
     have hpt := sumM_take wtT hm
     have hpt2 := sumM_take_le wtT ms (k + 1)
     have hbl : (magicB ++ tableB ms ++ bodyB 0 (ms.take k)).length ≤ 200000 := by
      have e1 := table_length ms hwT
      have e2 := body_length (ms.take k) 0 (fun x hx => List.all_eq_true.1 hall x (List.mem_of_mem_take hx)) (fun x hx => hdl x (List.mem_of_mem_take hx)) (by omega)
      have e3 := sumM_take_le wtD ms k
      have e4 : evn (sumM wtT ms) ≤ 65537 := by unfold evn; omega
      rw [List.length_append, List.length_append, e1, e2]
      show 8 + _ + _ ≤ _
      split <;> omega
     have hnl : m.name.length ≤ 255 := by
      unfold okM nmb at hok
      simp only [Bool.and_eq_true, decide_eq_true_eq] at hok
      exact hok.1.1.1.2
     have hdt : 0 ≤ m.date ∧ m.date ≤ 999999999999 := by
      unfold okM at hok
      simp only [Bool.and_eq_true, decide_eq_true_eq] at hok
      exact ⟨hok.1.2, hok.2⟩
     have hmB := mem_length (p := sumM wtT (ms.take k)) (by omega) hok hml
     obtain ⟨pl, hpl⟩ : ∃ pl, pl = sumM wtT (ms.take k) := ⟨_, rfl⟩
     obtain ⟨X, hX⟩ : ∃ X, X = magicB ++ tableB ms ++ bodyB 0 (ms.take k) := ⟨_, rfl⟩
     have hbt2 : magicB ++ tableB ms ++ bodyB 0 (ms.take (k + 1)) = X ++ memB pl m := by rw [hbt, hX, hpl, ← List.append_assoc]
     rw [← hpl] at hpt hpk
     rw [← hpl]
     rw [← hX] at hDk hbl
     have ql := fun w => long_any (mk m.name) w
     rw [tl_mk] at ql
     have hwt : wtT m = if lng m.name then m.name.length + 2 else 0 := rfl
     have hplb : pl + wtT m ≤ 65536 := by omega
     have HB := hide' hbt2
     have HP := hide' hpt
     have hsk := hBk.size
     have hrd0 := hr m hmem
     rw [hdv] at hrd0
     have HR := hide' hrd0
     clear hrd0
     have hcatF : mk m.name ++ { data := #[47] } = mk (m.name ++ [47]) := cat_mk m.name [47]
     have hcatT : { data := #[47] } ++ mk (dec (pl : Nat)) = mk (47 :: dec (pl : Nat)) := cat_mk [47] (dec (pl : Nat))
     have hb1' : Below wr.heap.size wr (wr.alloc (.cells #[.string (mk m.name), .int .i64 m.date, .slice da m.data.length dc] 86)) := (Below.refl _ _).alloc (Nat.le_refl _) _
     have z1' := alloc_new wr (.cells #[.string (mk m.name), .int .i64 m.date, .slice da m.data.length dc] 86)
     obtain ⟨wm, hwm⟩ : ∃ wm, wm = wr.alloc (.cells #[.string (mk m.name), .int .i64 m.date, .slice da m.data.length dc] 86) := ⟨_, rfl⟩
     rw [← hwm] at hb1' z1'
     have hDm := hDk.kept fun g hg => hb1'.block g (hDk.lt g hg)
     have hBm := hBk.trans (hb1'.mono hsk)
     have hrdm := hrd.below hb1'
     have hzm := lt_of_block z1'
     clear hM hsa hr hf hall hdl hrow hR hbt hbt2 hpt hpt2 hmB hm hmem hDs hX hpl hok hpk hrd
     cases hlg : lng m.name with
     | false =>
      rw [hlg] at ql hwt
      have hnB : nameB pl m.name = m.name ++ [47] := by unfold nameB; rw [hlg]; rfl
      have HN := hide' hnB
      clear hnB
      go_wp2_with fail
      rw [← hwm]
      refine (ql _).mono ?_
      rintro r wm' ⟨rfl, rfl⟩
      clear hwm ql
      go_wp2
      try rw [hcatF]
      refine wp_region_class (C := PmC wr.heap.size m.date (.slice da m.data.length dc)) (by kernel_rfl) ?_
      obtain ⟨Wd, hWd⟩ : ∃ Wd, Wd = World.drew wm' := ⟨_, rfl⟩
      have zd : Wd.heap[wr.heap.size]? = some (.cells #[.string (mk m.name), .int .i64 m.date, .slice da m.data.length dc] 86 (0, 0)) := by rw [hWd]; exact z1'
      have hBd : Below w.heap.size w Wd := by rw [hWd]; exact Below.drew hBm
      have hDd : Dat Wd u5 X := by rw [hWd]; exact Dat.kept hDm fun _ _ => rfl
      have hP : PmC wr.heap.size m.date (.slice da m.data.length dc) Wd := ⟨by rw [Lib.cell_of_heap zd]; rfl, by rw [Lib.cell_of_heap zd]; rfl⟩
      have hltd := lt_of_block zd
      rw [← hWd]
      clear hWd
      have q4 := decimal_any m.date (by omega) (by omega) Wd (hE.keep (hBd.mono h11) (by omega))
      (refine wpAnyC_take (i := 0) (v := ?_) hP rfl (by kernel_rfl) (by kernel_rfl) (by kernel_rfl) (fun _ _ _ h => h) (Or.inl ⟨by kernel_rfl, ?_⟩) ?_; rotate_left; (intro w hc; have k1 := hc.c1; have k2 := hc.c2; clear hc; go_simp; try with_reducible rfl))
      (refine wpAnyC_take (i := 1) (v := ?_) hP rfl (by kernel_rfl) (by kernel_rfl) (by kernel_rfl) (fun _ _ _ h => h) (Or.inl ⟨by kernel_rfl, ?_⟩) ?_; rotate_left; (intro w hc; have k1 := hc.c1; have k2 := hc.c2; clear hc; go_simp; try with_reducible rfl))
      (refine wpAnyC_take (i := 2) (v := ?_) hP rfl (by kernel_rfl) (by kernel_rfl) (by kernel_rfl) (fun _ _ _ h => h) (Or.inl ⟨by kernel_rfl, ?_⟩) ?_; rotate_left; (intro w hc; have k1 := hc.c1; have k2 := hc.c2; clear hc; go_simp; try with_reducible rfl))
      (refine wpAnyC_take (i := 3) (v := ?_) hP rfl (by kernel_rfl) (by kernel_rfl) (by kernel_rfl) (fun _ _ _ h => h) (Or.inl ⟨by kernel_rfl, ?_⟩) ?_; rotate_left; (intro w hc; have k1 := hc.c1; have k2 := hc.c2; clear hc; go_simp; try with_reducible rfl))
      (refine wpAnyC_take (i := 5) (v := ?_) hP rfl (by kernel_rfl) (by kernel_rfl) (by kernel_rfl) (fun _ _ _ h => h) (Or.inl ⟨by kernel_rfl, ?_⟩) ?_; rotate_left; (intro w hc; have k1 := hc.c1; have k2 := hc.c2; clear hc; go_simp; try with_reducible rfl))
      (refine wpAnyC_take (i := 6) (v := ?_) hP rfl (by kernel_rfl) (by kernel_rfl) (by kernel_rfl) (fun _ _ _ h => h) (Or.inl ⟨by kernel_rfl, ?_⟩) ?_; rotate_left; (intro w hc; have k1 := hc.c1; have k2 := hc.c2; clear hc; go_simp; try with_reducible rfl))
      (refine wpAnyC_take (i := 7) (v := ?_) hP rfl (by kernel_rfl) (by kernel_rfl) (by kernel_rfl) (fun _ _ _ h => h) (Or.inl ⟨by kernel_rfl, ?_⟩) ?_; rotate_left; (intro w hc; have k1 := hc.c1; have k2 := hc.c2; clear hc; go_simp; try with_reducible rfl))
      refine wpAnyC_one (i := 4) (by kernel_rfl) (wpOp_wanted rfl (by rfl) ?_)
      go_simp
      refine q4.mono ?_
      rintro r Wa ⟨rfl, hba⟩
      clear q4
      dsimp only
      have hPa := hP.below hba hltd
      have hBa := hBd.trans (hba.mono hBd.size)
      have q8 := decimal_any (m.data.length : Nat) (by omega) (by omega) Wa (hE.keep (hBa.mono h11) (by omega))
      refine ⟨hPa, ?_⟩
      refine wpAnyC_one (i := 8) (by kernel_rfl) (wpOp_wanted rfl (by rfl) ?_)
      go_simp
      refine q8.mono ?_
      rintro r Wb ⟨rfl, hbb⟩
      clear q8
      dsimp only
      have hltb : wr.heap.size < Wb.heap.size := Nat.lt_of_lt_of_le hltd (Nat.le_trans hba.size hbb.size)
      have hPb := hPa.below hbb (Nat.lt_of_lt_of_le hltd hba.size)
      have hBb := hBa.trans (hbb.mono hBa.size)
      have hbdb : Below Wd.heap.size Wd Wb := hba.trans (hbb.mono hba.size)
      refine ⟨hPb, ?_⟩
      have hbc : Below Wb.heap.size Wb (Wb.alloc (.cells #[.string (mk (m.name ++ [47])), .string (mk (dec m.date)), .string (mk [48]), .string (mk [48]), .string (mk [49, 48, 48, 54, 52, 52]), .string (mk (dec (m.data.length : Nat)))] 9)) := (Below.refl _ _).alloc (Nat.le_refl _) _
      have hPc := hPb.below hbc hltb
      have hBc := hBb.trans (hbc.mono hBb.size)
      have hCc := cols_new Wb (m.name ++ [47]) (dec m.date) [48] [48] [49, 48, 48, 54, 52, 52] (dec (m.data.length : Nat))
      have hDc : Dat (Wb.alloc (.cells #[.string (mk (m.name ++ [47])), .string (mk (dec m.date)), .string (mk [48]), .string (mk [48]), .string (mk [49, 48, 48, 54, 52, 52]), .string (mk (dec (m.data.length : Nat)))] 9)) u5 X := (hDd.kept fun g hg => hbdb.block g (hDd.lt g hg)).kept fun g hg => hbc.block g (Nat.lt_of_lt_of_le (hDd.lt g hg) hbdb.size)
      have l1 : (dec m.date).length ≤ 12 := dec_len 11 m.date hdt.1 (by have := hdt.2; simp; omega)
      have l2 := dec_small m.data.length hml
      have l3 : (m.name ++ [47]).length ≤ 300 := by rw [List.length_append]; show _ + 1 ≤ 300; omega
      have q10 := ahead_any u5 X Wb.heap.size 6 _ _ hDc (fun g hg => Nat.le_trans h11 (hOk g hg)) (Nat.le_trans h11 hBc.size) (hE.keep (hBc.mono h11) (by omega)) hCc rfl (by
       intro c hc
       simp only [List.mem_cons, List.not_mem_nil, or_false] at hc
       rcases hc with rfl | rfl | rfl | rfl | rfl | rfl <;> first | omega | simp) (by omega)
      rw [← headB_all] at q10
      refine wpAnyC_one (i := 9) (by kernel_rfl) (wpOp_wanted rfl (by rfl) ?_)
      go_simp
      refine wpAnyC_one (i := 10) (by kernel_rfl) (wpOp_wanted rfl (by rfl) ?_)
      go_simp
      refine Calls.mono q10 ?_
      rintro r We ⟨ve, rfl, hDe, hGe⟩
      clear q10
      dsimp only
      have hne : ¬ u5.ownBlock = some wr.heap.size := fun e => by
       obtain ⟨cur, hc⟩ := hDd.elem _ e
       rw [zd] at hc
       simp at hc
      have hlc : wr.heap.size < (Wb.alloc (.cells #[.string (mk (m.name ++ [47])), .string (mk (dec m.date)), .string (mk [48]), .string (mk [48]), .string (mk [49, 48, 48, 54, 52, 52]), .string (mk (dec (m.data.length : Nat)))] 9)).heap.size := Nat.lt_of_lt_of_le hltb hbc.size
      have hke := hGe.tr.block wr.heap.size hlc hne
      have hPe : PmC wr.heap.size m.date (.slice da m.data.length dc) We := ⟨(World.cell?_of_block (a := ⟨wr.heap.size, 1, none⟩) hke).trans hPc.c1, (World.cell?_of_block (a := ⟨wr.heap.size, 2, none⟩) hke).trans hPc.c2⟩
      have hOe : OwnB w.heap.size ve := hGe.own (Nat.le_trans hBc.size (Nat.le_refl _)) hOk
      have hBe : Below w.heap.size w We := hBc.trans (hGe.below hBc.size hOk)
      refine ⟨hPe, ?_⟩
      refine wpAnyC_one (i := 11) (by kernel_rfl) (wpOp_wanted rfl (by rfl) ?_)
      go_simp
      refine wpAnyC_done (by kernel_rfl) ?_ _
      have e2 := hPe.c2
      have hlen2 : (X ++ headB (m.name ++ [47]) (dec m.date) [48] [48] [49, 48, 48, 54, 52, 52] (dec (m.data.length : Nat))).length + m.data.length ≤ 1000000000 := by
       rw [List.length_append, head_length (by rw [← HN.out]; exact name_length (by omega)) l1 (by simp) (by simp) (by simp) (by omega)]
       omega
      have q12 := adata_any ve (.slice da m.data.length dc) _ m.data We hDe (HR.out.below hBe) hlen2
      have hfin : X ++ headB (m.name ++ [47]) (dec m.date) [48] [48] [49, 48, 48, 54, 52, 52] (dec (m.data.length : Nat)) ++ dataB m.data = magicB ++ tableB ms ++ bodyB 0 (ms.take (k + 1)) := by
       rw [HB.out, List.append_assoc]
       unfold memB
       rw [HN.out]
      rw [hfin] at q12
      clear hfin hlen2 hPe hPc hPb hPa hP hDe hDc hDd hCc hke hGe hne
      go_wp2_with fail
      refine q12.mono ?_
      rintro r Wf ⟨vf, rfl, hDf, hGf⟩
      clear q12
      have hOf : OwnB w.heap.size vf := hGf.own hBe.size hOe
      have hBf : Below w.heap.size w Wf := hBe.trans (hGf.below hBe.size hOe)
      go_wp2
      exact ⟨⟨k + 1, by omega, by simp, ival (by rw [HP.out, hwt]; simp), hDf, hOf, hBf⟩, by simp [intOf]; omega⟩
     | true =>
      rw [hlg] at ql hwt
      rw [if_pos rfl] at hwt
      rw [hwt] at hplb
      have hnB : nameB pl m.name = 47 :: dec pl := by unfold nameB; rw [hlg]; rfl
      have HN := hide' hnB
      clear hnB
      go_wp2_with fail
      rw [← hwm]
      refine (ql _).mono ?_
      rintro r wm' ⟨rfl, rfl⟩
      clear hwm ql
      have qd := decimal_any (pl : Nat) (by omega) (by omega) wm' (hE.keep (hBm.mono h11) (by omega))
      go_wp2_with fail
      refine qd.mono ?_
      rintro r wd ⟨rfl, hbd⟩
      clear qd
      have e0 : wd.cell? ⟨wr.heap.size, 0, none⟩ = some (.string (mk m.name)) := by rw [Lib.cell_of_heap ((hbd.block _ hzm).trans z1')]; rfl
      have hdp := dec_small pl (by omega)
      go_wp2
      try rw [hcatT]
      refine wp_region_class (C := PmC wr.heap.size m.date (.slice da m.data.length dc)) (by kernel_rfl) ?_
      obtain ⟨Wd, hWd⟩ : ∃ Wd, Wd = World.drew wd := ⟨_, rfl⟩
      have zd : Wd.heap[wr.heap.size]? = some (.cells #[.string (mk m.name), .int .i64 m.date, .slice da m.data.length dc] 86 (0, 0)) := by rw [hWd]; exact ((hbd.block _ hzm).trans z1')
      have hBd : Below w.heap.size w Wd := by rw [hWd]; exact Below.drew (hBm.trans (hbd.mono hBm.size))
      have hDd : Dat Wd u5 X := by rw [hWd]; exact Dat.kept (hDm.kept fun g hg => hbd.block g (hDm.lt g hg)) fun _ _ => rfl
      have hP : PmC wr.heap.size m.date (.slice da m.data.length dc) Wd := ⟨by rw [Lib.cell_of_heap zd]; rfl, by rw [Lib.cell_of_heap zd]; rfl⟩
      have hltd := lt_of_block zd
      rw [← hWd]
      clear hWd
      have q4 := decimal_any m.date (by omega) (by omega) Wd (hE.keep (hBd.mono h11) (by omega))
      (refine wpAnyC_take (i := 0) (v := ?_) hP rfl (by kernel_rfl) (by kernel_rfl) (by kernel_rfl) (fun _ _ _ h => h) (Or.inl ⟨by kernel_rfl, ?_⟩) ?_; rotate_left; (intro w hc; have k1 := hc.c1; have k2 := hc.c2; clear hc; go_simp; try with_reducible rfl))
      (refine wpAnyC_take (i := 1) (v := ?_) hP rfl (by kernel_rfl) (by kernel_rfl) (by kernel_rfl) (fun _ _ _ h => h) (Or.inl ⟨by kernel_rfl, ?_⟩) ?_; rotate_left; (intro w hc; have k1 := hc.c1; have k2 := hc.c2; clear hc; go_simp; try with_reducible rfl))
      (refine wpAnyC_take (i := 2) (v := ?_) hP rfl (by kernel_rfl) (by kernel_rfl) (by kernel_rfl) (fun _ _ _ h => h) (Or.inl ⟨by kernel_rfl, ?_⟩) ?_; rotate_left; (intro w hc; have k1 := hc.c1; have k2 := hc.c2; clear hc; go_simp; try with_reducible rfl))
      (refine wpAnyC_take (i := 3) (v := ?_) hP rfl (by kernel_rfl) (by kernel_rfl) (by kernel_rfl) (fun _ _ _ h => h) (Or.inl ⟨by kernel_rfl, ?_⟩) ?_; rotate_left; (intro w hc; have k1 := hc.c1; have k2 := hc.c2; clear hc; go_simp; try with_reducible rfl))
      (refine wpAnyC_take (i := 5) (v := ?_) hP rfl (by kernel_rfl) (by kernel_rfl) (by kernel_rfl) (fun _ _ _ h => h) (Or.inl ⟨by kernel_rfl, ?_⟩) ?_; rotate_left; (intro w hc; have k1 := hc.c1; have k2 := hc.c2; clear hc; go_simp; try with_reducible rfl))
      (refine wpAnyC_take (i := 6) (v := ?_) hP rfl (by kernel_rfl) (by kernel_rfl) (by kernel_rfl) (fun _ _ _ h => h) (Or.inl ⟨by kernel_rfl, ?_⟩) ?_; rotate_left; (intro w hc; have k1 := hc.c1; have k2 := hc.c2; clear hc; go_simp; try with_reducible rfl))
      (refine wpAnyC_take (i := 7) (v := ?_) hP rfl (by kernel_rfl) (by kernel_rfl) (by kernel_rfl) (fun _ _ _ h => h) (Or.inl ⟨by kernel_rfl, ?_⟩) ?_; rotate_left; (intro w hc; have k1 := hc.c1; have k2 := hc.c2; clear hc; go_simp; try with_reducible rfl))
      refine wpAnyC_one (i := 4) (by kernel_rfl) (wpOp_wanted rfl (by rfl) ?_)
      go_simp
      refine q4.mono ?_
      rintro r Wa ⟨rfl, hba⟩
      clear q4
      dsimp only
      have hPa := hP.below hba hltd
      have hBa := hBd.trans (hba.mono hBd.size)
      have q8 := decimal_any (m.data.length : Nat) (by omega) (by omega) Wa (hE.keep (hBa.mono h11) (by omega))
      refine ⟨hPa, ?_⟩
      refine wpAnyC_one (i := 8) (by kernel_rfl) (wpOp_wanted rfl (by rfl) ?_)
      go_simp
      refine q8.mono ?_
      rintro r Wb ⟨rfl, hbb⟩
      clear q8
      dsimp only
      have hltb : wr.heap.size < Wb.heap.size := Nat.lt_of_lt_of_le hltd (Nat.le_trans hba.size hbb.size)
      have hPb := hPa.below hbb (Nat.lt_of_lt_of_le hltd hba.size)
      have hBb := hBa.trans (hbb.mono hBa.size)
      have hbdb : Below Wd.heap.size Wd Wb := hba.trans (hbb.mono hba.size)
      refine ⟨hPb, ?_⟩
      have hbc : Below Wb.heap.size Wb (Wb.alloc (.cells #[.string (mk (47 :: dec pl)), .string (mk (dec m.date)), .string (mk [48]), .string (mk [48]), .string (mk [49, 48, 48, 54, 52, 52]), .string (mk (dec (m.data.length : Nat)))] 9)) := (Below.refl _ _).alloc (Nat.le_refl _) _
      have hPc := hPb.below hbc hltb
      have hBc := hBb.trans (hbc.mono hBb.size)
      have hCc := cols_new Wb (47 :: dec pl) (dec m.date) [48] [48] [49, 48, 48, 54, 52, 52] (dec (m.data.length : Nat))
      have hDc : Dat (Wb.alloc (.cells #[.string (mk (47 :: dec pl)), .string (mk (dec m.date)), .string (mk [48]), .string (mk [48]), .string (mk [49, 48, 48, 54, 52, 52]), .string (mk (dec (m.data.length : Nat)))] 9)) u5 X := (hDd.kept fun g hg => hbdb.block g (hDd.lt g hg)).kept fun g hg => hbc.block g (Nat.lt_of_lt_of_le (hDd.lt g hg) hbdb.size)
      have l1 : (dec m.date).length ≤ 12 := dec_len 11 m.date hdt.1 (by have := hdt.2; simp; omega)
      have l2 := dec_small m.data.length hml
      have l3 : (47 :: dec pl).length ≤ 300 := by have := dec_small pl (by omega); simp; omega
      have q10 := ahead_any u5 X Wb.heap.size 6 _ _ hDc (fun g hg => Nat.le_trans h11 (hOk g hg)) (Nat.le_trans h11 hBc.size) (hE.keep (hBc.mono h11) (by omega)) hCc rfl (by
       intro c hc
       simp only [List.mem_cons, List.not_mem_nil, or_false] at hc
       rcases hc with rfl | rfl | rfl | rfl | rfl | rfl <;> first | omega | simp) (by omega)
      rw [← headB_all] at q10
      refine wpAnyC_one (i := 9) (by kernel_rfl) (wpOp_wanted rfl (by rfl) ?_)
      go_simp
      refine wpAnyC_one (i := 10) (by kernel_rfl) (wpOp_wanted rfl (by rfl) ?_)
      go_simp
      refine Calls.mono q10 ?_
      rintro r We ⟨ve, rfl, hDe, hGe⟩
      clear q10
      dsimp only
      have hne : ¬ u5.ownBlock = some wr.heap.size := fun e => by
       obtain ⟨cur, hc⟩ := hDd.elem _ e
       rw [zd] at hc
       simp at hc
      have hlc : wr.heap.size < (Wb.alloc (.cells #[.string (mk (47 :: dec pl)), .string (mk (dec m.date)), .string (mk [48]), .string (mk [48]), .string (mk [49, 48, 48, 54, 52, 52]), .string (mk (dec (m.data.length : Nat)))] 9)).heap.size := Nat.lt_of_lt_of_le hltb hbc.size
      have hke := hGe.tr.block wr.heap.size hlc hne
      have hPe : PmC wr.heap.size m.date (.slice da m.data.length dc) We := ⟨(World.cell?_of_block (a := ⟨wr.heap.size, 1, none⟩) hke).trans hPc.c1, (World.cell?_of_block (a := ⟨wr.heap.size, 2, none⟩) hke).trans hPc.c2⟩
      have hOe : OwnB w.heap.size ve := hGe.own (Nat.le_trans hBc.size (Nat.le_refl _)) hOk
      have hBe : Below w.heap.size w We := hBc.trans (hGe.below hBc.size hOk)
      refine ⟨hPe, ?_⟩
      refine wpAnyC_one (i := 11) (by kernel_rfl) (wpOp_wanted rfl (by rfl) ?_)
      go_simp
      refine wpAnyC_done (by kernel_rfl) ?_ _
      have e2 := hPe.c2
      have hlen2 : (X ++ headB (47 :: dec pl) (dec m.date) [48] [48] [49, 48, 48, 54, 52, 52] (dec (m.data.length : Nat))).length + m.data.length ≤ 1000000000 := by
       rw [List.length_append, head_length (by rw [← HN.out]; exact name_length (by omega)) l1 (by simp) (by simp) (by simp) (by omega)]
       omega
      have q12 := adata_any ve (.slice da m.data.length dc) _ m.data We hDe (HR.out.below hBe) hlen2
      have hfin : X ++ headB (47 :: dec pl) (dec m.date) [48] [48] [49, 48, 48, 54, 52, 52] (dec (m.data.length : Nat)) ++ dataB m.data = magicB ++ tableB ms ++ bodyB 0 (ms.take (k + 1)) := by
       rw [HB.out, List.append_assoc]
       unfold memB
       rw [HN.out]
      rw [hfin] at q12
      clear hfin hlen2 hPe hPc hPb hPa hP hDe hDc hDd hCc hke hGe hne
      go_wp2_with fail
      refine q12.mono ?_
      rintro r Wf ⟨vf, rfl, hDf, hGf⟩
      clear q12
      have hOf : OwnB w.heap.size vf := hGf.own hBe.size hOe
      have hBf : Below w.heap.size w Wf := hBe.trans (hGf.below hBe.size hOe)
      go_wp2
      exact ⟨⟨k + 1, by omega, by simp, ival (by rw [HP.out, hwt]; simp), hDf, hOf, hBf⟩, by simp [intOf]; omega⟩
    ·obtain rfl : k = ms.length := by omega
     have k2 : ¬ (ms.length : Int) < ms.length := by omega
     rw [List.take_length] at hDk
     obtain ⟨a9, n9, c9, hv9⟩ := hDk.form
     subst hv9
     have HZ := hide' hz
     clear hz
     go_wp2
     go_ret2
     exact ⟨hBk, .inl ⟨HZ.out, _, rfl, hDk, hOk⟩⟩
  ·have k1 : ¬ (0 : Int) < (sumM wtT ms : Nat) := by omega
   have hTB : tableB ms = [] := by unfold tableB; rw [hTL, if_neg htp]
   have hDs : Dat w5 v4 (magicB ++ tableB ms) := by rw [hTB, List.append_nil]; exact hD5
   have hOs := hO4
   have hBs := hB5
   clear hTB hT5 hTO hTL hD4 hg4 ho4 hB4 hb5 hB3 hD3 hO3 hb3 hb2 hb1 hB2 hD5 hO4 hB5
   go_wp2
   go_loopw [5, 7, 9, 10, 36] (fun b p _ _ i wr => ∃ k : Nat, k ≤ ms.length ∧ i = .int .i64 k ∧ p = .int .i64 (sumM wtT (ms.take k) : Nat) ∧ Dat wr b (magicB ++ tableB ms ++ bodyB 0 (ms.take k)) ∧ OwnB w.heap.size b ∧ Below w.heap.size w wr) (fun _ _ _ _ i _ => ms.length - (intOf i).toNat)
   case atStart => exact ⟨0, by omega, rfl, rfl, by simpa [bodyB] using hDs, hOs, hBs⟩
   case round =>
    obtain ⟨k, hk, rfl, rfl, hDk, hOk, hBk⟩ := hrel
    by_cases hkl : k < ms.length
    ·have k2 : (k : Int) < ms.length := by omega
     obtain ⟨m, hm⟩ : ∃ m, ms[k]? = some m := ⟨_, List.getElem?_eq_getElem hkl⟩
     have hmem := List.mem_of_getElem? hm
     obtain ⟨hM, hsa, hr, hf, hall, hdl⟩ := HM.out
     obtain ⟨g, o, hse, hrow⟩ := hsa (fun e => by rw [e] at hkl; simp at hkl)
     subst hse
     have hR := hrow.below hBk
     have d0 := hR.c0 k m hm
     have d1 := hR.c1 k m hm
     have d2 := hR.c2 k m hm
     have hrd := (hr m hmem).below hBk
     obtain ⟨da, dc, hdv⟩ := hrd.len
     rw [hdv] at d2 hrd
     have hok : okM m = true := List.all_eq_true.1 hall m hmem
     have hml := hdl m hmem
     have hpk := sumM_take_le wtT ms k
     have hbt := bodyB_take hm
     have hpt := sumM_take wtT hm
     have hpt2 := sumM_take_le wtT ms (k + 1)
     have hbl : (magicB ++ tableB ms ++ bodyB 0 (ms.take k)).length ≤ 200000 := by
      have e1 := table_length ms hwT
      have e2 := body_length (ms.take k) 0 (fun x hx => List.all_eq_true.1 hall x (List.mem_of_mem_take hx)) (fun x hx => hdl x (List.mem_of_mem_take hx)) (by omega)
      have e3 := sumM_take_le wtD ms k
      have e4 : evn (sumM wtT ms) ≤ 65537 := by unfold evn; omega
      rw [List.length_append, List.length_append, e1, e2]
      show 8 + _ + _ ≤ _
      split <;> omega
     have hnl : m.name.length ≤ 255 := by
      unfold okM nmb at hok
      simp only [Bool.and_eq_true, decide_eq_true_eq] at hok
      exact hok.1.1.1.2
     have hdt : 0 ≤ m.date ∧ m.date ≤ 999999999999 := by
      unfold okM at hok
      simp only [Bool.and_eq_true, decide_eq_true_eq] at hok
      exact ⟨hok.1.2, hok.2⟩
     have hmB := mem_length (p := sumM wtT (ms.take k)) (by omega) hok hml
     obtain ⟨pl, hpl⟩ : ∃ pl, pl = sumM wtT (ms.take k) := ⟨_, rfl⟩
     obtain ⟨X, hX⟩ : ∃ X, X = magicB ++ tableB ms ++ bodyB 0 (ms.take k) := ⟨_, rfl⟩
     have hbt2 : magicB ++ tableB ms ++ bodyB 0 (ms.take (k + 1)) = X ++ memB pl m := by rw [hbt, hX, hpl, ← List.append_assoc]
     rw [← hpl] at hpt hpk
     rw [← hpl]
     rw [← hX] at hDk hbl
     have ql := fun w => long_any (mk m.name) w
     rw [tl_mk] at ql
     have hwt : wtT m = if lng m.name then m.name.length + 2 else 0 := rfl
     have hplb : pl + wtT m ≤ 65536 := by omega
     have HB := hide' hbt2
     have HP := hide' hpt
     have hsk := hBk.size
     have hrd0 := hr m hmem
     rw [hdv] at hrd0
     have HR := hide' hrd0
     clear hrd0
     have hcatF : mk m.name ++ { data := #[47] } = mk (m.name ++ [47]) := cat_mk m.name [47]
     have hcatT : { data := #[47] } ++ mk (dec (pl : Nat)) = mk (47 :: dec (pl : Nat)) := cat_mk [47] (dec (pl : Nat))
     have hb1' : Below wr.heap.size wr (wr.alloc (.cells #[.string (mk m.name), .int .i64 m.date, .slice da m.data.length dc] 86)) := (Below.refl _ _).alloc (Nat.le_refl _) _
     have z1' := alloc_new wr (.cells #[.string (mk m.name), .int .i64 m.date, .slice da m.data.length dc] 86)
     obtain ⟨wm, hwm⟩ : ∃ wm, wm = wr.alloc (.cells #[.string (mk m.name), .int .i64 m.date, .slice da m.data.length dc] 86) := ⟨_, rfl⟩
     rw [← hwm] at hb1' z1'
     have hDm := hDk.kept fun g hg => hb1'.block g (hDk.lt g hg)
     have hBm := hBk.trans (hb1'.mono hsk)
     have hrdm := hrd.below hb1'
     have hzm := lt_of_block z1'
     clear hM hsa hr hf hall hdl hrow hR hbt hbt2 hpt hpt2 hmB hm hmem hDs hX hpl hok hpk hrd
     cases hlg : lng m.name with
     | false =>
      rw [hlg] at ql hwt
      have hnB : nameB pl m.name = m.name ++ [47] := by unfold nameB; rw [hlg]; rfl
      have HN := hide' hnB
      clear hnB
      go_wp2_with fail
      rw [← hwm]
      refine (ql _).mono ?_
      rintro r wm' ⟨rfl, rfl⟩
      clear hwm ql
      go_wp2
      try rw [hcatF]
      refine wp_region_class (C := PmC wr.heap.size m.date (.slice da m.data.length dc)) (by kernel_rfl) ?_
      obtain ⟨Wd, hWd⟩ : ∃ Wd, Wd = World.drew wm' := ⟨_, rfl⟩
      have zd : Wd.heap[wr.heap.size]? = some (.cells #[.string (mk m.name), .int .i64 m.date, .slice da m.data.length dc] 86 (0, 0)) := by rw [hWd]; exact z1'
      have hBd : Below w.heap.size w Wd := by rw [hWd]; exact Below.drew hBm
      have hDd : Dat Wd u5 X := by rw [hWd]; exact Dat.kept hDm fun _ _ => rfl
      have hP : PmC wr.heap.size m.date (.slice da m.data.length dc) Wd := ⟨by rw [Lib.cell_of_heap zd]; rfl, by rw [Lib.cell_of_heap zd]; rfl⟩
      have hltd := lt_of_block zd
      rw [← hWd]
      clear hWd
      have q4 := decimal_any m.date (by omega) (by omega) Wd (hE.keep (hBd.mono h11) (by omega))
      (refine wpAnyC_take (i := 0) (v := ?_) hP rfl (by kernel_rfl) (by kernel_rfl) (by kernel_rfl) (fun _ _ _ h => h) (Or.inl ⟨by kernel_rfl, ?_⟩) ?_; rotate_left; (intro w hc; have k1 := hc.c1; have k2 := hc.c2; clear hc; go_simp; try with_reducible rfl))
      (refine wpAnyC_take (i := 1) (v := ?_) hP rfl (by kernel_rfl) (by kernel_rfl) (by kernel_rfl) (fun _ _ _ h => h) (Or.inl ⟨by kernel_rfl, ?_⟩) ?_; rotate_left; (intro w hc; have k1 := hc.c1; have k2 := hc.c2; clear hc; go_simp; try with_reducible rfl))
      (refine wpAnyC_take (i := 2) (v := ?_) hP rfl (by kernel_rfl) (by kernel_rfl) (by kernel_rfl) (fun _ _ _ h => h) (Or.inl ⟨by kernel_rfl, ?_⟩) ?_; rotate_left; (intro w hc; have k1 := hc.c1; have k2 := hc.c2; clear hc; go_simp; try with_reducible rfl))
      (refine wpAnyC_take (i := 3) (v := ?_) hP rfl (by kernel_rfl) (by kernel_rfl) (by kernel_rfl) (fun _ _ _ h => h) (Or.inl ⟨by kernel_rfl, ?_⟩) ?_; rotate_left; (intro w hc; have k1 := hc.c1; have k2 := hc.c2; clear hc; go_simp; try with_reducible rfl))
      (refine wpAnyC_take (i := 5) (v := ?_) hP rfl (by kernel_rfl) (by kernel_rfl) (by kernel_rfl) (fun _ _ _ h => h) (Or.inl ⟨by kernel_rfl, ?_⟩) ?_; rotate_left; (intro w hc; have k1 := hc.c1; have k2 := hc.c2; clear hc; go_simp; try with_reducible rfl))
      (refine wpAnyC_take (i := 6) (v := ?_) hP rfl (by kernel_rfl) (by kernel_rfl) (by kernel_rfl) (fun _ _ _ h => h) (Or.inl ⟨by kernel_rfl, ?_⟩) ?_; rotate_left; (intro w hc; have k1 := hc.c1; have k2 := hc.c2; clear hc; go_simp; try with_reducible rfl))
      (refine wpAnyC_take (i := 7) (v := ?_) hP rfl (by kernel_rfl) (by kernel_rfl) (by kernel_rfl) (fun _ _ _ h => h) (Or.inl ⟨by kernel_rfl, ?_⟩) ?_; rotate_left; (intro w hc; have k1 := hc.c1; have k2 := hc.c2; clear hc; go_simp; try with_reducible rfl))
      refine wpAnyC_one (i := 4) (by kernel_rfl) (wpOp_wanted rfl (by rfl) ?_)
      go_simp
      refine q4.mono ?_
      rintro r Wa ⟨rfl, hba⟩
      clear q4
      dsimp only
      have hPa := hP.below hba hltd
      have hBa := hBd.trans (hba.mono hBd.size)
      have q8 := decimal_any (m.data.length : Nat) (by omega) (by omega) Wa (hE.keep (hBa.mono h11) (by omega))
      refine ⟨hPa, ?_⟩
      refine wpAnyC_one (i := 8) (by kernel_rfl) (wpOp_wanted rfl (by rfl) ?_)
      go_simp
      refine q8.mono ?_
      rintro r Wb ⟨rfl, hbb⟩
      clear q8
      dsimp only
      have hltb : wr.heap.size < Wb.heap.size := Nat.lt_of_lt_of_le hltd (Nat.le_trans hba.size hbb.size)
      have hPb := hPa.below hbb (Nat.lt_of_lt_of_le hltd hba.size)
      have hBb := hBa.trans (hbb.mono hBa.size)
      have hbdb : Below Wd.heap.size Wd Wb := hba.trans (hbb.mono hba.size)
      refine ⟨hPb, ?_⟩
      have hbc : Below Wb.heap.size Wb (Wb.alloc (.cells #[.string (mk (m.name ++ [47])), .string (mk (dec m.date)), .string (mk [48]), .string (mk [48]), .string (mk [49, 48, 48, 54, 52, 52]), .string (mk (dec (m.data.length : Nat)))] 9)) := (Below.refl _ _).alloc (Nat.le_refl _) _
      have hPc := hPb.below hbc hltb
      have hBc := hBb.trans (hbc.mono hBb.size)
      have hCc := cols_new Wb (m.name ++ [47]) (dec m.date) [48] [48] [49, 48, 48, 54, 52, 52] (dec (m.data.length : Nat))
      have hDc : Dat (Wb.alloc (.cells #[.string (mk (m.name ++ [47])), .string (mk (dec m.date)), .string (mk [48]), .string (mk [48]), .string (mk [49, 48, 48, 54, 52, 52]), .string (mk (dec (m.data.length : Nat)))] 9)) u5 X := (hDd.kept fun g hg => hbdb.block g (hDd.lt g hg)).kept fun g hg => hbc.block g (Nat.lt_of_lt_of_le (hDd.lt g hg) hbdb.size)
      have l1 : (dec m.date).length ≤ 12 := dec_len 11 m.date hdt.1 (by have := hdt.2; simp; omega)
      have l2 := dec_small m.data.length hml
      have l3 : (m.name ++ [47]).length ≤ 300 := by rw [List.length_append]; show _ + 1 ≤ 300; omega
      have q10 := ahead_any u5 X Wb.heap.size 6 _ _ hDc (fun g hg => Nat.le_trans h11 (hOk g hg)) (Nat.le_trans h11 hBc.size) (hE.keep (hBc.mono h11) (by omega)) hCc rfl (by
       intro c hc
       simp only [List.mem_cons, List.not_mem_nil, or_false] at hc
       rcases hc with rfl | rfl | rfl | rfl | rfl | rfl <;> first | omega | simp) (by omega)
      rw [← headB_all] at q10
      refine wpAnyC_one (i := 9) (by kernel_rfl) (wpOp_wanted rfl (by rfl) ?_)
      go_simp
      refine wpAnyC_one (i := 10) (by kernel_rfl) (wpOp_wanted rfl (by rfl) ?_)
      go_simp
      refine Calls.mono q10 ?_
      rintro r We ⟨ve, rfl, hDe, hGe⟩
      clear q10
      dsimp only
      have hne : ¬ u5.ownBlock = some wr.heap.size := fun e => by
       obtain ⟨cur, hc⟩ := hDd.elem _ e
       rw [zd] at hc
       simp at hc
      have hlc : wr.heap.size < (Wb.alloc (.cells #[.string (mk (m.name ++ [47])), .string (mk (dec m.date)), .string (mk [48]), .string (mk [48]), .string (mk [49, 48, 48, 54, 52, 52]), .string (mk (dec (m.data.length : Nat)))] 9)).heap.size := Nat.lt_of_lt_of_le hltb hbc.size
      have hke := hGe.tr.block wr.heap.size hlc hne
      have hPe : PmC wr.heap.size m.date (.slice da m.data.length dc) We := ⟨(World.cell?_of_block (a := ⟨wr.heap.size, 1, none⟩) hke).trans hPc.c1, (World.cell?_of_block (a := ⟨wr.heap.size, 2, none⟩) hke).trans hPc.c2⟩
      have hOe : OwnB w.heap.size ve := hGe.own (Nat.le_trans hBc.size (Nat.le_refl _)) hOk
      have hBe : Below w.heap.size w We := hBc.trans (hGe.below hBc.size hOk)
      refine ⟨hPe, ?_⟩
      refine wpAnyC_one (i := 11) (by kernel_rfl) (wpOp_wanted rfl (by rfl) ?_)
      go_simp
      refine wpAnyC_done (by kernel_rfl) ?_ _
      have e2 := hPe.c2
      have hlen2 : (X ++ headB (m.name ++ [47]) (dec m.date) [48] [48] [49, 48, 48, 54, 52, 52] (dec (m.data.length : Nat))).length + m.data.length ≤ 1000000000 := by
       rw [List.length_append, head_length (by rw [← HN.out]; exact name_length (by omega)) l1 (by simp) (by simp) (by simp) (by omega)]
       omega
      have q12 := adata_any ve (.slice da m.data.length dc) _ m.data We hDe (HR.out.below hBe) hlen2
      have hfin : X ++ headB (m.name ++ [47]) (dec m.date) [48] [48] [49, 48, 48, 54, 52, 52] (dec (m.data.length : Nat)) ++ dataB m.data = magicB ++ tableB ms ++ bodyB 0 (ms.take (k + 1)) := by
       rw [HB.out, List.append_assoc]
       unfold memB
       rw [HN.out]
      rw [hfin] at q12
      clear hfin hlen2 hPe hPc hPb hPa hP hDe hDc hDd hCc hke hGe hne
      go_wp2_with fail
      refine q12.mono ?_
      rintro r Wf ⟨vf, rfl, hDf, hGf⟩
      clear q12
      have hOf : OwnB w.heap.size vf := hGf.own hBe.size hOe
      have hBf : Below w.heap.size w Wf := hBe.trans (hGf.below hBe.size hOe)
      go_wp2
      exact ⟨⟨k + 1, by omega, by simp, ival (by rw [HP.out, hwt]; simp), hDf, hOf, hBf⟩, by simp [intOf]; omega⟩
     | true =>
      rw [hlg] at ql hwt
      rw [if_pos rfl] at hwt
      rw [hwt] at hplb
      have hnB : nameB pl m.name = 47 :: dec pl := by unfold nameB; rw [hlg]; rfl
      have HN := hide' hnB
      clear hnB
      go_wp2_with fail
      rw [← hwm]
      refine (ql _).mono ?_
      rintro r wm' ⟨rfl, rfl⟩
      clear hwm ql
      have qd := decimal_any (pl : Nat) (by omega) (by omega) wm' (hE.keep (hBm.mono h11) (by omega))
      go_wp2_with fail
      refine qd.mono ?_
      rintro r wd ⟨rfl, hbd⟩
      clear qd
      have e0 : wd.cell? ⟨wr.heap.size, 0, none⟩ = some (.string (mk m.name)) := by rw [Lib.cell_of_heap ((hbd.block _ hzm).trans z1')]; rfl
      have hdp := dec_small pl (by omega)
      go_wp2
      try rw [hcatT]
      refine wp_region_class (C := PmC wr.heap.size m.date (.slice da m.data.length dc)) (by kernel_rfl) ?_
      obtain ⟨Wd, hWd⟩ : ∃ Wd, Wd = World.drew wd := ⟨_, rfl⟩
      have zd : Wd.heap[wr.heap.size]? = some (.cells #[.string (mk m.name), .int .i64 m.date, .slice da m.data.length dc] 86 (0, 0)) := by rw [hWd]; exact ((hbd.block _ hzm).trans z1')
      have hBd : Below w.heap.size w Wd := by rw [hWd]; exact Below.drew (hBm.trans (hbd.mono hBm.size))
      have hDd : Dat Wd u5 X := by rw [hWd]; exact Dat.kept (hDm.kept fun g hg => hbd.block g (hDm.lt g hg)) fun _ _ => rfl
      have hP : PmC wr.heap.size m.date (.slice da m.data.length dc) Wd := ⟨by rw [Lib.cell_of_heap zd]; rfl, by rw [Lib.cell_of_heap zd]; rfl⟩
      have hltd := lt_of_block zd
      rw [← hWd]
      clear hWd
      have q4 := decimal_any m.date (by omega) (by omega) Wd (hE.keep (hBd.mono h11) (by omega))
      (refine wpAnyC_take (i := 0) (v := ?_) hP rfl (by kernel_rfl) (by kernel_rfl) (by kernel_rfl) (fun _ _ _ h => h) (Or.inl ⟨by kernel_rfl, ?_⟩) ?_; rotate_left; (intro w hc; have k1 := hc.c1; have k2 := hc.c2; clear hc; go_simp; try with_reducible rfl))
      (refine wpAnyC_take (i := 1) (v := ?_) hP rfl (by kernel_rfl) (by kernel_rfl) (by kernel_rfl) (fun _ _ _ h => h) (Or.inl ⟨by kernel_rfl, ?_⟩) ?_; rotate_left; (intro w hc; have k1 := hc.c1; have k2 := hc.c2; clear hc; go_simp; try with_reducible rfl))
      (refine wpAnyC_take (i := 2) (v := ?_) hP rfl (by kernel_rfl) (by kernel_rfl) (by kernel_rfl) (fun _ _ _ h => h) (Or.inl ⟨by kernel_rfl, ?_⟩) ?_; rotate_left; (intro w hc; have k1 := hc.c1; have k2 := hc.c2; clear hc; go_simp; try with_reducible rfl))
      (refine wpAnyC_take (i := 3) (v := ?_) hP rfl (by kernel_rfl) (by kernel_rfl) (by kernel_rfl) (fun _ _ _ h => h) (Or.inl ⟨by kernel_rfl, ?_⟩) ?_; rotate_left; (intro w hc; have k1 := hc.c1; have k2 := hc.c2; clear hc; go_simp; try with_reducible rfl))
      (refine wpAnyC_take (i := 5) (v := ?_) hP rfl (by kernel_rfl) (by kernel_rfl) (by kernel_rfl) (fun _ _ _ h => h) (Or.inl ⟨by kernel_rfl, ?_⟩) ?_; rotate_left; (intro w hc; have k1 := hc.c1; have k2 := hc.c2; clear hc; go_simp; try with_reducible rfl))
      (refine wpAnyC_take (i := 6) (v := ?_) hP rfl (by kernel_rfl) (by kernel_rfl) (by kernel_rfl) (fun _ _ _ h => h) (Or.inl ⟨by kernel_rfl, ?_⟩) ?_; rotate_left; (intro w hc; have k1 := hc.c1; have k2 := hc.c2; clear hc; go_simp; try with_reducible rfl))
      (refine wpAnyC_take (i := 7) (v := ?_) hP rfl (by kernel_rfl) (by kernel_rfl) (by kernel_rfl) (fun _ _ _ h => h) (Or.inl ⟨by kernel_rfl, ?_⟩) ?_; rotate_left; (intro w hc; have k1 := hc.c1; have k2 := hc.c2; clear hc; go_simp; try with_reducible rfl))
      refine wpAnyC_one (i := 4) (by kernel_rfl) (wpOp_wanted rfl (by rfl) ?_)
      go_simp
      refine q4.mono ?_
      rintro r Wa ⟨rfl, hba⟩
      clear q4
      dsimp only
      have hPa := hP.below hba hltd
      have hBa := hBd.trans (hba.mono hBd.size)
      have q8 := decimal_any (m.data.length : Nat) (by omega) (by omega) Wa (hE.keep (hBa.mono h11) (by omega))
      refine ⟨hPa, ?_⟩
      refine wpAnyC_one (i := 8) (by kernel_rfl) (wpOp_wanted rfl (by rfl) ?_)
      go_simp
      refine q8.mono ?_
      rintro r Wb ⟨rfl, hbb⟩
      clear q8
      dsimp only
      have hltb : wr.heap.size < Wb.heap.size := Nat.lt_of_lt_of_le hltd (Nat.le_trans hba.size hbb.size)
      have hPb := hPa.below hbb (Nat.lt_of_lt_of_le hltd hba.size)
      have hBb := hBa.trans (hbb.mono hBa.size)
      have hbdb : Below Wd.heap.size Wd Wb := hba.trans (hbb.mono hba.size)
      refine ⟨hPb, ?_⟩
      have hbc : Below Wb.heap.size Wb (Wb.alloc (.cells #[.string (mk (47 :: dec pl)), .string (mk (dec m.date)), .string (mk [48]), .string (mk [48]), .string (mk [49, 48, 48, 54, 52, 52]), .string (mk (dec (m.data.length : Nat)))] 9)) := (Below.refl _ _).alloc (Nat.le_refl _) _
      have hPc := hPb.below hbc hltb
      have hBc := hBb.trans (hbc.mono hBb.size)
      have hCc := cols_new Wb (47 :: dec pl) (dec m.date) [48] [48] [49, 48, 48, 54, 52, 52] (dec (m.data.length : Nat))
      have hDc : Dat (Wb.alloc (.cells #[.string (mk (47 :: dec pl)), .string (mk (dec m.date)), .string (mk [48]), .string (mk [48]), .string (mk [49, 48, 48, 54, 52, 52]), .string (mk (dec (m.data.length : Nat)))] 9)) u5 X := (hDd.kept fun g hg => hbdb.block g (hDd.lt g hg)).kept fun g hg => hbc.block g (Nat.lt_of_lt_of_le (hDd.lt g hg) hbdb.size)
      have l1 : (dec m.date).length ≤ 12 := dec_len 11 m.date hdt.1 (by have := hdt.2; simp; omega)
      have l2 := dec_small m.data.length hml
      have l3 : (47 :: dec pl).length ≤ 300 := by have := dec_small pl (by omega); simp; omega
      have q10 := ahead_any u5 X Wb.heap.size 6 _ _ hDc (fun g hg => Nat.le_trans h11 (hOk g hg)) (Nat.le_trans h11 hBc.size) (hE.keep (hBc.mono h11) (by omega)) hCc rfl (by
       intro c hc
       simp only [List.mem_cons, List.not_mem_nil, or_false] at hc
       rcases hc with rfl | rfl | rfl | rfl | rfl | rfl <;> first | omega | simp) (by omega)
      rw [← headB_all] at q10
      refine wpAnyC_one (i := 9) (by kernel_rfl) (wpOp_wanted rfl (by rfl) ?_)
      go_simp
      refine wpAnyC_one (i := 10) (by kernel_rfl) (wpOp_wanted rfl (by rfl) ?_)
      go_simp
      refine Calls.mono q10 ?_
      rintro r We ⟨ve, rfl, hDe, hGe⟩
      clear q10
      dsimp only
      have hne : ¬ u5.ownBlock = some wr.heap.size := fun e => by
       obtain ⟨cur, hc⟩ := hDd.elem _ e
       rw [zd] at hc
       simp at hc
      have hlc : wr.heap.size < (Wb.alloc (.cells #[.string (mk (47 :: dec pl)), .string (mk (dec m.date)), .string (mk [48]), .string (mk [48]), .string (mk [49, 48, 48, 54, 52, 52]), .string (mk (dec (m.data.length : Nat)))] 9)).heap.size := Nat.lt_of_lt_of_le hltb hbc.size
      have hke := hGe.tr.block wr.heap.size hlc hne
      have hPe : PmC wr.heap.size m.date (.slice da m.data.length dc) We := ⟨(World.cell?_of_block (a := ⟨wr.heap.size, 1, none⟩) hke).trans hPc.c1, (World.cell?_of_block (a := ⟨wr.heap.size, 2, none⟩) hke).trans hPc.c2⟩
      have hOe : OwnB w.heap.size ve := hGe.own (Nat.le_trans hBc.size (Nat.le_refl _)) hOk
      have hBe : Below w.heap.size w We := hBc.trans (hGe.below hBc.size hOk)
      refine ⟨hPe, ?_⟩
      refine wpAnyC_one (i := 11) (by kernel_rfl) (wpOp_wanted rfl (by rfl) ?_)
      go_simp
      refine wpAnyC_done (by kernel_rfl) ?_ _
      have e2 := hPe.c2
      have hlen2 : (X ++ headB (47 :: dec pl) (dec m.date) [48] [48] [49, 48, 48, 54, 52, 52] (dec (m.data.length : Nat))).length + m.data.length ≤ 1000000000 := by
       rw [List.length_append, head_length (by rw [← HN.out]; exact name_length (by omega)) l1 (by simp) (by simp) (by simp) (by omega)]
       omega
      have q12 := adata_any ve (.slice da m.data.length dc) _ m.data We hDe (HR.out.below hBe) hlen2
      have hfin : X ++ headB (47 :: dec pl) (dec m.date) [48] [48] [49, 48, 48, 54, 52, 52] (dec (m.data.length : Nat)) ++ dataB m.data = magicB ++ tableB ms ++ bodyB 0 (ms.take (k + 1)) := by
       rw [HB.out, List.append_assoc]
       unfold memB
       rw [HN.out]
      rw [hfin] at q12
      clear hfin hlen2 hPe hPc hPb hPa hP hDe hDc hDd hCc hke hGe hne
      go_wp2_with fail
      refine q12.mono ?_
      rintro r Wf ⟨vf, rfl, hDf, hGf⟩
      clear q12
      have hOf : OwnB w.heap.size vf := hGf.own hBe.size hOe
      have hBf : Below w.heap.size w Wf := hBe.trans (hGf.below hBe.size hOe)
      go_wp2
      exact ⟨⟨k + 1, by omega, by simp, ival (by rw [HP.out, hwt]; simp), hDf, hOf, hBf⟩, by simp [intOf]; omega⟩
    ·obtain rfl : k = ms.length := by omega
     have k2 : ¬ (ms.length : Int) < ms.length := by omega
     rw [List.take_length] at hDk
     obtain ⟨a9, n9, c9, hv9⟩ := hDk.form
     subst hv9
     have HZ := hide' hz
     clear hz
     go_wp2
     go_ret2
     exact ⟨hBk, .inl ⟨HZ.out, _, rfl, hDk, hOk⟩⟩
 ·have HZ := hide' hz
  clear hz
  go_wp2
  go_ret2
  exact ⟨hb1, .inr ⟨HZ.out, _, rfl, .inr ⟨HZ.out, pb, p, rfl, hpb⟩⟩⟩
theorem written_any (v : Value) (ms : List Mv) (w : World) (h : Mems w v ms) (hf : Fine ms) (hE : Env w) (h11 : 10 ≤ w.heap.size) : Calls Tryz.prog 145 #[v] w fun r w' => WrAt ms w r w' := by
 have hM := h
 rcases h with ⟨⟨a, c, rfl⟩, rfl⟩ | ⟨g, o, cap, rfl, h0, h1, h2⟩
 ·exact written_any' a c [] w hM (fun e => absurd rfl e) (fun n hn => (by cases hn)) hf hE h11
 ·exact written_any' _ cap ms w hM (fun _ => ⟨g, o, rfl, h1⟩) h2 hf hE h11
end Go.Proofs.YtabmnkddmdffkaaGreatDoor.Arc
