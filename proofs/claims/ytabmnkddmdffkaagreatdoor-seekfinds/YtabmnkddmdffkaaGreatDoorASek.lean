import Derived.Test.YtabmnkddmdffkaaGreatDoorAPrpG
import Derived.Test.YtabmnkddmdffkaaGreatDoorARttG
import Derived.Test.YtabmnkddmdffkaaGreatDoorAFinG
import Derived.Test.YtabmnkddmdffkaaGreatDoorACnv
import Derived.Test.YtabmnkddmdffkaaGreatDoorADirG
import Derived.Test.YtabmnkddmdffkaaGreatDoorARefFairG
namespace Go.Proofs.YtabmnkddmdffkaaGreatDoor.Sk
open Go.RowKit Go.Maps Go.Shelf
theorem OwS.at {w : World} {B : Nat} {v : Value} {L : List ByteArray} (h : OwS w B v L) : ∃ la lc, v = .slice la L.length lc ∧ ∀ k, k < L.length → ∃ b, la = some ⟨b, 0, none⟩ ∧ b < w.heap.size ∧ w.cell? ⟨b, k, none⟩ = some (.string (L.getD k ⟨#[]⟩)) := by
 rcases h.2 with ⟨rfl, h0⟩ | ⟨g, cap, cur, rfl, hg, hgb, h1, h2, h3, h4⟩
 ·have hl : L = [] := List.length_eq_zero_iff.1 h0
  subst hl
  exact ⟨none, 0, rfl, fun k hk => absurd hk (Nat.not_lt_zero _)⟩
 ·refine ⟨_, cap, rfl, fun k hk => ⟨g, rfl, (Array.getElem?_eq_some_iff.1 hgb).1, ?_⟩⟩
  have hj' : (L.map Value.string)[k]? = some (.string (L.getD k ⟨#[]⟩)) := by
   rw [List.getElem?_map, List.getD_eq_getElem?_getD, List.getElem?_eq_getElem hk]; rfl
  rw [← h4, List.getElem?_take_of_lt (by omega)] at hj'
  simp only [World.cell?, hgb]
  simpa using hj'
theorem OwS.keep {w w' : World} {B : Nat} {v : Value} {L : List ByteArray} (h : OwS w B v L) (hb : Below w.heap.size w w') : OwS w' B v L := Tx.row_below h hb
theorem fndP_dirs (t : Bs → Option Int) (L : List Prw) (nm dr : List UInt8) (h0 : t nm = none) (hm : isM nm = false) : fndP t L nm dr = match (dirL L nm dr).find? (fun d => (t (jnP nm d)).isSome) with | some d => (jnP nm d, true) | none => (nm, false) := by
 unfold fndP frst plL
 rw [hm, List.find?_cons, h0]
 simp only [Bool.false_eq_true, if_false, Option.isSome_none]
 rw [List.find?_map]
 show (match Option.map (jnP nm) (List.find? (fun d => (t (jnP nm d)).isSome) (dirL L nm dr)) with | some p => (p, true) | none => (nm, false)) = _
 cases List.find? (fun d => (t (jnP nm d)).isSome) (dirL L nm dr) <;> rfl
theorem fndP_here (t : Bs → Option Int) (L : List Prw) (nm dr : List UInt8) (h0 : (t nm).isSome = true) : fndP t L nm dr = (nm, true) := by
 unfold fndP frst plL
 rw [List.find?_cons, h0]
theorem fndP_mem (t : Bs → Option Int) (L : List Prw) (nm dr : List UInt8) (h0 : t nm = none) (hm : isM nm = true) : fndP t L nm dr = (nm, false) := by
 unfold fndP frst plL
 rw [hm, List.find?_cons, h0]
 rfl
set_option maxRecDepth 100000 in
set_option maxHeartbeats 4000000 in
theorem rseek_any (R : Nat) (a : Option Addr) (m cap : Nat) (L : List Prw) (name : ByteArray) (D : List UInt8) (t : Bs → Option Int) (hm : m ≤ 1000) (hns : name.size ≤ 1000) (hds : D.length ≤ 1000) (hls : ∀ p ∈ L, p.1.size ≤ 1000 ∧ p.2.size ≤ 1000) (w : World) (hp : Prs w a m L)
  (hT : ∀ (x : ByteArray) w1, x.size ≤ 300000 → Below w.heap.size w w1 → Calls Tryz.prog 13 #[.pointer (some ⟨R, 0, none⟩), .string x] w1 fun e w' => e = .returned (.tuple #[.int .i64 ((t (tl x)).getD 0), .bool (t (tl x)).isSome]) ∧ Below w1.heap.size w1 w') :
  Calls Tryz.prog 11 #[.agg (bsC a m cap), .string (mk D), .pointer (some ⟨R, 0, none⟩), .string name] w fun e w' => e = .returned (.tuple #[.string (mk (fndP t L (tl name) D).1), .bool (fndP t L (tl name) D).2]) ∧ Below w.heap.size w w' := by
 obtain ⟨w1, hw1⟩ : ∃ w1, w1 = w.alloc (.cells (bsC a m cap) 43) := ⟨_, rfl⟩
 have hb1 : Below w.heap.size w w1 := by rw [hw1]; exact (Below.refl _ _).alloc (Nat.le_refl _) _
 have q1 := hT name w1 (by omega) hb1
 rw [hw1] at q1
 have hmn : mk (tl name) = name := rfl
 by_cases h0 : (t (tl name)).isSome = true
 ·rw [fndP_here _ _ _ _ h0, hmn]
  rw [h0] at q1
  clear hT hp hls
  go_enter Tryz.func11, Tryz.ntmps11
  go_wp2_with fail
  refine q1.mono ?_
  rintro e w2 ⟨rfl, hb2⟩
  go_wp2_with fail
  refine bodyPost_ret (by simp [results, Tryz.results11, go_sem]; rfl) rfl ?_
  rw [← hw1] at hb2
  exact ⟨rfl, hb1.trans (hb2.mono hb1.size)⟩
 ·have h0n : t (tl name) = none := by simpa using h0
  rw [h0n] at q1
  have q2 := fun w => rmember_any name (by omega) w
  cases hM : isM (tl name) with
  | true =>
   rw [fndP_mem _ _ _ _ h0n hM, hmn]
   unfold prV at q2
   rw [hM] at q2
   clear hT hp hls h0 h0n hM
   go_enter Tryz.func11, Tryz.ntmps11
   go_wp2_with fail
   refine q1.mono ?_
   rintro e w2 ⟨rfl, hb2⟩
   clear q1
   go_wp2_with fail
   refine (q2 _).mono ?_
   rintro e w3 ⟨rfl, hb3⟩
   clear q2
   go_wp2_with fail
   refine bodyPost_ret (by simp [results, Tryz.results11, go_sem]; rfl) rfl ?_
   rw [← hw1] at hb2
   exact ⟨rfl, hb1.trans ((hb2.trans (hb3.mono hb2.size)).mono hb1.size)⟩
  | false =>
   rw [fndP_dirs _ _ _ _ h0n hM]
   have q2n : ∀ w, Calls Tryz.prog 15 #[.string name] w fun e w' => e = .returned (.tuple #[.string ⟨#[]⟩, .string ⟨#[]⟩, .bool false]) ∧ Below w.heap.size w w' := fun w => by
    rw [← prV_no _ hM]; exact q2 w
   obtain ⟨DL, hDL⟩ : ∃ x, x = dirL L (tl name) D := ⟨_, rfl⟩
   have hsh := dirL_short L (tl name) D 1000 hds (fun p hp => (hls p hp).2)
   rw [← hDL] at hsh ⊢
   obtain ⟨RES, hRES⟩ : ∃ x : List UInt8 × Bool, x = (match DL.find? (fun d => (t (jnP (tl name) d)).isSome) with | some d => (jnP (tl name) d, true) | none => (tl name, false)) := ⟨_, rfl⟩
   rw [← hRES]
   have HRES := hide' hRES
   have HDL := hide' hDL
   have HSH := hide' hsh
   have HT := hide' hT
   have HP := hide' hp
   have HLS := hide' hls
   have hs1 : w1.heap.size = w.heap.size + 1 := by rw [hw1]; simp
   have hbox : w1.heap[w.heap.size]? = some (.cells (bsC a m cap) 43 (0, 0)) := by rw [hw1]; exact World.alloc_heap_new w _
   have HB1 := hide' hb1
   have HLEN := hide' hp.hlen
   have HW1 := hide' hw1
   clear hRES hDL hsh hT hp hls h0 h0n hM q2 hb1 hw1
   go_enter Tryz.func11, Tryz.ntmps11
   go_wp2_with fail
   refine q1.mono ?_
   rintro e w2 ⟨rfl, hb2⟩
   rw [← HW1.out] at hb2
   clear q1
   go_wp2_with fail
   refine (q2n _).mono ?_
   rintro e w3 ⟨rfl, hb3⟩
   have hb13 : Below w1.heap.size w1 w3 := hb2.trans (hb3.mono hb2.size)
   clear q2n hb2 hb3
   go_wp2_with fail
   go_loopw [15, 16, 17, 18] (fun l i _ _ wr => ∃ (k : Nat) (LS : List ByteArray), k ≤ m ∧ i = .int .i64 k ∧ OwS wr w1.heap.size l LS ∧ Below w1.heap.size w1 wr ∧ LS.length ≤ 1000 * k ∧ Hid (LS.map tl = (L.take k).flatMap (pW (tl name)))) (fun _ i _ _ _ => m - (intOf i).toNat)
   case atStart => exact ⟨0, [], Nat.zero_le _, rfl, World.ownsRow_nil _ _ _ _, hb13, Nat.le_refl _, rfl⟩
   case round =>
    obtain ⟨k, LS, hk, rfl, hrow, hB, hLk, HLS2⟩ := hrel
    have cb : wr.cell? ⟨w.heap.size, 2, none⟩ = some (.slice a m cap) := by rw [Lib.cell_of_heap ((hB.block _ (by omega)).trans hbox)]; rfl
    have hszr := hB.size
    by_cases hlt : k < m
    ·obtain ⟨b, rfl, hbs, _, x, hx, d1, d2⟩ := (HP.out.lies ((Lies.below HB1.out).trans (Lies.below hB))).hat k hlt
     obtain ⟨x1, x2⟩ := x
     have hkl : k < L.length := by have := HLEN.out; omega
     have hxk : L[k] = (x1, x2) := by rw [List.getElem?_eq_getElem hkl] at hx; exact Option.some.inj hx
     have hxs : x1.size ≤ 1000 ∧ x2.size ≤ 1000 := by have := HLS.out (x1, x2) (hxk ▸ List.getElem_mem hkl); exact this
     obtain ⟨hx1, hx2⟩ := hxs
     have hst : (L.take (k + 1)).flatMap (pW (tl name)) = (L.take k).flatMap (pW (tl name)) ++ pW (tl name) (x1, x2) := by
      rw [List.take_succ_eq_append_getElem hkl, List.flatMap_append, hxk]; simp
     have km := fun w => Pt.rmatch_any x1 name w (by omega) (by omega)
     obtain ⟨q, hq⟩ : ∃ q, q = (Pt.mt (tl x1) (tl name)).2 := ⟨_, rfl⟩
     obtain ⟨st, hst1⟩ : ∃ st, st = mk (Pt.mt (tl x1) (tl name)).1 := ⟨_, rfl⟩
     have km2 : ∀ w, Calls Tryz.prog 31 #[.string x1, .string name] w fun e w' => e = .returned (.tuple #[.string st, .bool q]) ∧ w' = w := fun w => by rw [hq, hst1]; exact km w
     have hpw : pW (tl name) (x1, x2) = if q then Tx.words (tl x2) else [] := by rw [hq]; rfl
     rw [hpw] at hst
     simp only at d1 d2
     have HST := hide' hst
     clear hst hpw hxk hx hkl hst1 hq km
     cases q with
     | false =>
      have HL3 : Hid (LS.map tl = (L.take (k + 1)).flatMap (pW (tl name))) := by
       show _ = _
       rw [HST.out, HLS2.out]; simp
      clear HST HLS2
      go_wp2_with (go_at_call 31; refine (km2 _).mono ?_; rintro e w' ⟨rfl, rfl⟩)
      exact ⟨⟨k + 1, LS, by omega, by go_num, hrow, hB, by omega, HL3⟩, by simp [intOf]; omega⟩
     | true =>
      have ks := fun w => Tx.rsplit_any x2 (by omega) w
      have ks2 : ∀ w', Calls Tryz.prog 32 #[.string x2] w' fun e W' => ∃ (v : Value) (NS : List ByteArray), e = .returned v ∧ NS.length ≤ 1000 ∧ NS.map tl = Tx.words (tl x2) ∧ OwS W' w'.heap.size v NS ∧ Below w'.heap.size w' W' := fun w' => (ks w').mono fun e W' h => by
       obtain ⟨v, NS, h1, h2, h3, h4⟩ := h
       refine ⟨v, NS, h1, ?_, h2, h3, h4⟩
       have h5 := Tx.words_len x2.data.toList
       rw [← h2, List.length_map] at h5
       have : x2.data.toList.length = x2.size := by simp
       omega
      clear ks
      have HROW := hide' hrow
      have hk1000 : LS.length ≤ 1000000 := by omega
      clear hrow
      go_wp2_with (first | (go_at_call 31; refine (km2 _).mono ?_; rintro e w' ⟨rfl, rfl⟩) | (go_at_call 32; refine (ks2 _).mono ?_; rintro e w8 ⟨v2, NS, rfl, hNl, hNS, hrow2, hb9⟩; obtain ⟨v3, w9, hap, how, hb10⟩ := app_strs (HROW.out.keep hb9) hrow2 (by omega) (Nat.le_trans hszr hb9.size)) | (at_builtin; refine wpList_app_run rfl _ _ 40 rfl _ _ _ _ rfl rfl hap ?_))
      refine ⟨⟨k + 1, LS ++ NS, by omega, by go_num, how, (hB.trans (hb9.mono hszr)).trans hb10, by rw [List.length_append]; omega, ?_⟩, by simp [intOf]; omega⟩
      show _ = _
      rw [HST.out, List.map_append, HLS2.out, hNS]; rfl
    ·have hkm : k = m := by omega
     have HL4 : Hid (LS.map tl = L.flatMap (pW (tl name))) := by
      show _ = _
      rw [HLS2.out, hkm, HLEN.out, List.take_length]
     have hk1000 : LS.length ≤ 1000000 := by omega
     have HROW := hide' hrow
     obtain ⟨wo, rfl⟩ : ∃ wo, wo = wr := ⟨_, rfl⟩
     obtain ⟨hcv, hbc, hby⟩ := conv_by wo D
     obtain ⟨n, hn⟩ : ∃ n, n = D.length := ⟨_, rfl⟩
     rw [← hn] at hcv hds
     obtain ⟨cp, hcp⟩ : ∃ cp, cp = grownCap wo n 0 5 := ⟨_, rfl⟩
     rw [← hcp] at hcv
     obtain ⟨wc, hwc⟩ : ∃ wc, wc = Lib.bytesWorld wo 5 (mk D) := ⟨_, rfl⟩
     rw [← hwc] at hcv hby hbc
     obtain ⟨g, hg⟩ : ∃ g, g = wo.heap.size := ⟨_, rfl⟩
     rw [← hg] at hcv hby
     have HM := hide' hn
     have HBY := hide' hby
     have HGG := hide' hg
     have hmc : n ≤ cp := by rw [hcp]; exact grownCap_ge _ _ _ _
     have HBC := hide' hbc
     clear hn hcp hwc hg hby hrow hLk HLS2 HLS HP hbc
     go_wp2_with fail
     as_aux_lemma =>
      go_loopw [20] (fun i wr => ∃ j : Nat, j ≤ n ∧ i = .int .i64 j ∧ ByAt wr g (gone D j) ∧ Below wo.heap.size wo wr) (fun i _ => n - (intOf i).toNat)
      case atStart => exact ⟨0, Nat.zero_le _, rfl, by rw [gone_none]; exact HBY.out, HBC.out⟩
      case round =>
       obtain ⟨j, hj, rfl, hB1, hB2⟩ := hrel
       by_cases hltj : j < n
       ·have hjl : j < D.length := by have := HM.out; omega
        have hjg : j < (gone D j).length := by rw [gone_len]; exact hjl
        obtain ⟨x, hx⟩ : ∃ x, x = D[j] := ⟨_, rfl⟩
        have hc := hB1.cel j hjg
        rw [gone_at D j hjl, ← hx] at hc
        have hf := hB1.frz j hjg
        by_cases h58 : x = 58
        ·have k1 := beq_yes x 58 58 rfl h58
         have k2 : (x.toNat : Int) = 58 := by rw [h58]; rfl
         have hB3 : ByAt (wr.setCell ⟨g, j, none⟩ (.int .u8 32)) g (gone D (j + 1)) := by
          rw [gone_yes D j hjl (hx.symm.trans h58)]
          exact hB1.set j hjg 32
         have hB4 : Below wo.heap.size wo (wr.setCell ⟨g, j, none⟩ (.int .u8 32)) := hB2.setCell (p := ⟨g, j, none⟩) (by rw [HGG.out]; exact Nat.le_refl _) _
         have HB3 := hide' hB3
         have HB4 := hide' hB4
         clear hx hjl hjg hB1 hB2 hB3 hB4 h58
         go_wp2
         exact ⟨⟨j + 1, by omega, by go_num, HB3.out, HB4.out⟩, by simp [intOf]; omega⟩
        ·have k1 := beq_no x 58 58 rfl h58
         have k2 : ¬ (x.toNat : Int) = 58 := fun e => h58 (UInt8.toNat_inj.1 (by have : (58 : UInt8).toNat = 58 := rfl; omega))
         have hB3 : ByAt wr g (gone D (j + 1)) := by
          rw [gone_no D j hjl (fun e => h58 (hx.trans e))]
          exact hB1
         clear hx hjl hjg hB1 h58
         go_wp2
         exact ⟨⟨j + 1, by omega, by go_num, hB3, hB2⟩, by simp [intOf]; omega⟩
       ·have hjm : n = j := by omega
        subst hjm
        rw [HM.out, gone_all] at hB1
        have hst := rds_str (hB1.rds (n := n) (cap := cp) (by rw [cmap_len]; exact HM.out))
        have hszq := hB2.size
        have ks2 : ∀ w', Calls Tryz.prog 32 #[.string (mk (cmap D))] w' fun e W' => ∃ (v : Value) (NS : List ByteArray), e = .returned v ∧ NS.length ≤ 1000 ∧ NS.map tl = Tx.words (cmap D) ∧ OwS W' w'.heap.size v NS ∧ Below w'.heap.size w' W' := fun w' => (Tx.rsplit_any (mk (cmap D)) (by rw [mk_size, cmap_len, ← HM.out]; omega) w').mono fun e W' h => by
         obtain ⟨v, NS, h1, h2, h3, h4⟩ := h
         refine ⟨v, NS, h1, ?_, by rw [← tl_mk (cmap D)]; exact h2, h3, h4⟩
         have h5 := Tx.words_len (mk (cmap D)).data.toList
         rw [← h2, List.length_map] at h5
         have h6 : (mk (cmap D)).data.toList.length = n := by rw [show (mk (cmap D)).data.toList = cmap D from tl_mk _, cmap_len, ← HM.out]
         omega
        have HB2 := hide' hB2
        clear hB1 hB2
        go_wp2_with (first | (go_at_call 32; refine (ks2 _).mono ?_; rintro e w8 ⟨v2, NS, rfl, hNl, hNS, hrow2, hb9⟩; obtain ⟨v3, w9, hap, how, hb10⟩ := app_strs ((HROW.out.keep HB2.out).keep hb9) hrow2 (by omega) (Nat.le_trans hszr (Nat.le_trans hszq hb9.size)); have HNS := hide' hNS; have HB9 := hide' hb9; obtain ⟨QS, hQS⟩ : ∃ x, x = LS ++ NS := ⟨_, rfl⟩; rw [← hQS] at how; have HQS := hide' hQS; clear hQS; obtain ⟨la, lc, rfl, hat⟩ := how.at; have HAT := hide' hat; clear hNS hb9 how hat ks2 hrow2 hst) | (at_builtin; refine wpList_app_run rfl _ _ 40 rfl _ _ _ _ rfl rfl hap ?_))
        have hQ : Hid (QS.map tl = DL) := by
         show _ = _
         rw [HQS.out, List.map_append, HL4.out, HNS.out, HDL.out]; rfl
        have HB19 : Hid (Below w.heap.size w w9) := hide' (HB1.out.trans (((hB.trans ((HB2.out.trans (HB9.out.mono hszq)).mono hszr)).trans hb10).mono HB1.out.size))
        have hql : QS.length ≤ 2000000 := by rw [HQS.out, List.length_append]; omega
        clear HQS HL4 HNS HDL HB2 HB9 HROW hbox HW1 HBY HBC HLEN hB hb10 cb
        as_aux_lemma =>
         go_loopw [11, 21, 22] (fun _ i _ wr => ∃ j : Nat, j ≤ QS.length ∧ i = .int .i64 j ∧ Below w9.heap.size w9 wr ∧ Hid (∀ d ∈ DL.take j, t (jnP (tl name) d) = none)) (fun _ i _ _ => QS.length - (intOf i).toNat)
         case atStart => exact ⟨0, Nat.zero_le _, rfl, Below.refl _ _, fun d hd => by simp at hd⟩
         case round =>
          obtain ⟨j, hj, rfl, hBj, HNo⟩ := hrel
          have hDl : DL.length = QS.length := by rw [← hQ.out, List.length_map]
          by_cases hlj : j < QS.length
          ·obtain ⟨b, rfl, hbs, hcell⟩ := HAT.out j hlj
           have d1 := (hBj.cell (p := ⟨b, j, none⟩) hbs).trans hcell
           obtain ⟨x, hx⟩ : ∃ x, x = QS.getD j ⟨#[]⟩ := ⟨_, rfl⟩
           rw [← hx] at d1
           have hxd : DL[j]? = some (tl x) := by
            rw [← hQ.out, List.getElem?_map, hx, List.getD_eq_getElem?_getD, List.getElem?_eq_getElem hlj]; rfl
           have hxl : (tl x).length ≤ 1000 := HSH.out _ (List.mem_of_getElem? hxd)
           have hxs : x.size ≤ 1000 := by rw [← tl_len]; exact hxl
           have hcat : tl (x ++ ⟨#[47]⟩ ++ name) = tl x ++ 47 :: tl name := by
            unfold tl
            rw [ByteArray.data_append, ByteArray.data_append, Array.toList_append, Array.toList_append, List.append_assoc]; rfl
           obtain ⟨pp, hpp⟩ : ∃ p, p = jnP (tl name) (tl x) := ⟨_, rfl⟩
           have hpl : pp.length ≤ 3000 := by
            have h1 := clean_len (tl x ++ 47 :: tl name)
            rw [hpp]; unfold jnP
            rw [List.length_append, List.length_cons, tl_len, tl_len] at h1
            omega
           have q3 : ∀ w', Calls Tryz.prog 33 #[.string (x ++ ⟨#[47]⟩ ++ name)] w' fun e W' => e = .returned (.string (mk pp)) ∧ Below w'.heap.size w' W' := fun w' => by
            have h1 := rclean_any (x ++ ⟨#[47]⟩ ++ name) (by rw [← tl_len, hcat, List.length_append, List.length_cons, tl_len, tl_len]; omega) w'
            rw [hcat] at h1
            rw [hpp]; exact h1
           have qT : ∀ w', Below wr.heap.size wr w' → Calls Tryz.prog 13 #[.pointer (some ⟨R, 0, none⟩), .string (mk pp)] w' fun e W' => e = .returned (.tuple #[.int .i64 ((t pp).getD 0), .bool (t pp).isSome]) ∧ Below w'.heap.size w' W' := fun w' hb' => by
            have h1 := HT.out (mk pp) w' (by rw [mk_size]; omega) (HB19.out.trans ((hBj.trans (hb'.mono hBj.size)).mono HB19.out.size))
            rw [tl_mk] at h1
            exact h1
           have hbw := HB19.out.trans (hBj.mono HB19.out.size)
           have HBW := hide' hbw
           have hszj := hBj.size
           have HBJ := hide' hBj
           cases hv : t pp with
           | some tv =>
            rw [hv] at qT
            have HR2 : Hid (RES = (pp, true)) := by
             show _ = _
             have hf : DL.find? (fun d => (t (jnP (tl name) d)).isSome) = some (tl x) := by
              refine List.find?_eq_some_iff_getElem.2 ⟨by show (t (jnP (tl name) (tl x))).isSome = true; rw [← hpp, hv]; rfl, j, by omega, (List.getElem?_eq_some_iff.1 hxd).2, fun i hi => ?_⟩
              have h2 := HNo.out DL[i] (by rw [List.mem_take_iff_getElem]; exact ⟨i, by omega, rfl⟩)
              simp only [h2]; rfl
             rw [HRES.out, hf, hpp]
            clear hx hxd hcat hpp hv hbw hBj HNo hcell
            go_wp2_with (first | (go_at_call 33; refine (q3 _).mono ?_; rintro e w11 ⟨rfl, hb11⟩; have q5 := qT _ hb11; clear q3 qT) | (go_at_call 13; refine q5.mono ?_; rintro e w12 ⟨rfl, hb12⟩; clear q5))
            refine bodyPost_ret (by simp [results, Tryz.results11, go_sem]; rfl) rfl ?_
            rw [HR2.out]
            exact ⟨rfl, HBW.out.trans ((hb11.trans (hb12.mono hb11.size)).mono HBW.out.size)⟩
           | none =>
            rw [hv] at qT
            have HNo2 : Hid (∀ d ∈ DL.take (j + 1), t (jnP (tl name) d) = none) := by
             show ∀ d ∈ DL.take (j + 1), _
             intro d hd
             rw [List.take_add_one, hxd] at hd
             rcases List.mem_append.1 hd with hd | hd
             ·exact HNo.out d hd
             ·obtain rfl : d = tl x := by simpa using hd
              rw [← hpp, hv]
            clear hx hxd hcat hpp hv hbw hBj HNo hcell
            go_wp2_with (first | (go_at_call 33; refine (q3 _).mono ?_; rintro e w11 ⟨rfl, hb11⟩; have q5 := qT _ hb11; clear q3 qT) | (go_at_call 13; refine q5.mono ?_; rintro e w12 ⟨rfl, hb12⟩; clear q5))
            exact ⟨⟨j + 1, by omega, by go_num, HBJ.out.trans ((hb11.trans (hb12.mono hb11.size)).mono hszj), HNo2⟩, by simp [intOf]; omega⟩
          ·have hjq : j = QS.length := by omega
           have HR2 : Hid (RES = (tl name, false)) := by
            show _ = _
            have hf : DL.find? (fun d => (t (jnP (tl name) d)).isSome) = none := by
             refine List.find?_eq_none.2 fun d hd => ?_
             have h2 := HNo.out d (by rw [hjq, ← hDl, List.take_length]; exact hd)
             simp only [h2]; decide
            rw [HRES.out, hf]
           have hbw := HB19.out.trans (hBj.mono HB19.out.size)
           subst hjq
           clear HNo hBj
           go_wp2_with fail
           refine bodyPost_ret (by simp [results, Tryz.results11, go_sem]; rfl) rfl ?_
           rw [HR2.out]
           exact ⟨rfl, hbw⟩
end Go.Proofs.YtabmnkddmdffkaaGreatDoor.Sk
