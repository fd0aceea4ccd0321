/- The contract of db.New, with the built-in rules. -/
import Derived.Test.YtkmedgdpcifnoaaDoorNw
import Derived.Deep.QuietTactic
import Derived.Deep.Cut
import Derived.Deep.CutBlock
namespace Go.Proofs.YtkmedgdpcifnoaaDoor
open Go.RowKit Go.Shelf

/-- a base of these rules alone -/
abbrev baseV (v : Value) : Value := .agg #[v, .slice none 0 0, .slice none 0 0, .slice none 0 0, .slice none 0 0, .string ⟨#[]⟩, .slice none 0 0]
theorem plaP_zero (R A : List Rx) : plaP (rs R) (rs A) 0 = fun _ _ => [] := rfl
theorem rls_form3 {w : World} {v : Value} {L : List Rx} (h : Rls w v L) : ∃ a n c, v = .slice a n c := by
  obtain ⟨a, c, e⟩ := h.form
  exact ⟨_, _, _, e⟩
theorem rx_form {w : World} {B : Nat} {y : Rx} (h : RxO w B y) : ∃ (za : Option Addr) (zn zc : Nat) (zb : Option Addr) (zm zd : Nat) (ze : Option Addr) (zp zf : Nat) (zg : Option Addr) (zq zh : Nat) (bd bp bt : Bool) (zs : ByteArray) (bh : Bool) (zt : ByteArray) (bb : Bool),
    rxC y = [.slice za zn zc, .slice zb zm zd, .slice ze zp zf, .bool bd, .bool bp, .bool bt, .string zs, .slice zg zq zh, .bool bh, .string zt, .bool bb] := by
  obtain ⟨yr, ya, yb, yc, yd⟩ := y
  obtain ⟨t0, t1, t2, t3⟩ := h
  simp only at t0 t1 t2 t3
  obtain ⟨za, zn, zc, rfl⟩ := own_form3 t0
  obtain ⟨zb, zm, zd, rfl⟩ := own_form3 t1
  obtain ⟨ze, zp, zf, rfl⟩ := own_form3 t2
  obtain ⟨zg, zq, zh, rfl⟩ := own_form3 t3
  exact ⟨_, _, _, _, _, _, _, _, _, _, _, _, _, _, _, _, _, _, _, rfl⟩
set_option maxRecDepth 100000 in
set_option maxHeartbeats 8000000 in
theorem new_any (L : List Rx) (v : Value) (w : World) (hg : Glo w) (h : Rls w v L) (hl : L.length ≤ 100) (hf : ∀ x ∈ L, FitR 100000000 x.r) :
    Calls Tryd.prog 9 #[baseV v, .bool false] w fun e w' => ∃ D, e = .returned (.pointer (some ⟨D, 0, none⟩)) ∧ ∃ M BG n rv lv v3 R A, DbAt w w' D M BG n rv lv v3 R A (plaP (rs L) (allP false (rs L)) L.length) ∧ rs R = rs L ∧ rs A = allP false (rs L) ∧ n ≤ 50000000 ∧ w'.ownsInts w.heap.size 3 .i64 v3 (nI (impP ((allP false (rs L)).take L.length) ((allP false (rs L)).drop L.length))) := by
  obtain ⟨va, vc, rfl⟩ := h.form
  have b0 : ∀ W, W = w.alloc (.cells #[.slice va L.length vc, .slice none 0 0, .slice none 0 0, .slice none 0 0, .slice none 0 0, .string ⟨#[]⟩, .slice none 0 0] 28) → W.cell? ⟨w.heap.size, 0, none⟩ = some (.slice va L.length vc) := fun W hW => by
    rw [hW, Lib.cell_of_heap (heap_alloc_new w _)]; rfl
  have hb0 : Below w.heap.size w (w.alloc (.cells #[.slice va L.length vc, .slice none 0 0, .slice none 0 0, .slice none 0 0, .slice none 0 0, .string ⟨#[]⟩, .slice none 0 0] 28)) := below_alloc (Below.refl _ w) (Nat.le_refl _) _
  have kC := copiesOf_any L (.slice va L.length vc) _ (by omega) hf (h.below hb0)
  have hlen : (w.alloc (.cells #[.slice va L.length vc, .slice none 0 0, .slice none 0 0, .slice none 0 0, .slice none 0 0, .string ⟨#[]⟩, .slice none 0 0] 28)).heap.size = w.heap.size + 1 := World.size_alloc _ _
  have HG := hide' hg
  have HF := hide' hf
  clear hg h hf
  have mm := @run_makeMap Tryd.prog
  go_enter Tryd.func9, Tryd.ntmps9
  go_upto_region 1 with fail
  have c0 := b0 _ rfl
  clear b0
  generalize w.alloc (.cells #[.slice va L.length vc, .slice none 0 0, .slice none 0 0, .slice none 0 0, .slice none 0 0, .string ⟨#[]⟩, .slice none 0 0] 28) = w1 at kC hb0 hlen c0 ⊢
  go_wp2_with fail
  refine kC.mono ?_
  rintro e w2 ⟨rv, rfl, R, hR, hSame, hb2⟩
  dsimp only
  have hSame : rs R = rs L := hSame
  have hRl : R.length = L.length := by have := congrArg List.length hSame; rwa [rs_len, rs_len] at this
  have HRL := hide' hRl
  have HSM := hide' hSame
  have hR100 : R.length ≤ 100 := by omega
  clear hRl hSame
  obtain ⟨ra, rc, rfl⟩ := hR.form
  have hR := hR.mono (show w.heap.size ≤ w1.heap.size by omega)
  have hbw2 := hb0.trans (hb2.mono (by omega))
  have hB2 := hbw2.size
  clear kC c0 hb2 hb0 hlen
  have hgr := GrAt.made w2
  have hbm : Below w2.heap.size w2 (w2.alloc (.map #[] 0)) := below_alloc (Below.refl _ w2) (Nat.le_refl _) _
  have hR3 := hR.below hbm
  have hdb := heap_alloc_new (w2.alloc (.map #[] 0)) (.cells #[.slice ra R.length rc, .slice none 0 0, .map (some w2.heap.size), .slice none 0 0] 57)
  have hbd : Below (w2.alloc (.map #[] 0)).heap.size (w2.alloc (.map #[] 0)) ((w2.alloc (.map #[] 0)).alloc (.cells #[.slice ra R.length rc, .slice none 0 0, .map (some w2.heap.size), .slice none 0 0] 57)) := below_alloc (Below.refl _ _) (Nat.le_refl _) _
  have hR4 := hR3.below hbd
  have hgr4 := hgr.below hbd
  have hbw4 := hbw2.trans ((hbm.trans (hbd.mono hbm.size)).mono hB2)
  rw [World.size_alloc] at hdb
  have hdb : DbC ((w2.alloc (.map #[] 0)).alloc (.cells #[.slice ra R.length rc, .slice none 0 0, .map (some w2.heap.size), .slice none 0 0] 57)) (w2.heap.size + 1) (.slice ra R.length rc) (.slice none 0 0) (.map (some w2.heap.size)) (.slice none 0 0) := hdb
  have HR4 := hide' hR4
  have HGR := hide' hgr4
  have HBW := hide' hbw4
  clear hR hR3 hR4 hgr hgr4 hbd hbm hbw2 hbw4
  go_upto_region 2 with fail
  clear mm
  generalize (w2.alloc (.map #[] 0)).alloc (.cells #[.slice ra R.length rc, .slice none 0 0, .map (some w2.heap.size), .slice none 0 0] 57) = w4 at hdb HR4 HGR HBW ⊢
  obtain ⟨D, hD⟩ : ∃ D, D = w2.heap.size + 1 := ⟨_, rfl⟩
  obtain ⟨M, hM⟩ : ∃ M, M = w2.heap.size := ⟨_, rfl⟩
  obtain ⟨BG, hBG⟩ : ∃ BG, BG = w2.heap.size + 1 := ⟨_, rfl⟩
  have HGR : Hid (GrAt w4 BG M 0 (fun _ _ => [])) := by rw [hBG, hM]; exact HGR
  rw [← hD, ← hM] at hdb ⊢
  have hDl : w.heap.size ≤ D := by omega
  have hMl : w.heap.size ≤ M := by omega
  have hBGl : w.heap.size ≤ BG := by omega
  have hBGD : BG ≤ D := by omega
  clear hD hM hBG
  have d0 := hdb.c0
  have hfR : ∀ x ∈ R, FitR 100000000 x.r := fun x hx => by
    have h1 : x.r ∈ rs R := List.mem_map.2 ⟨x, hx, rfl⟩
    rw [HSM.out] at h1
    obtain ⟨y, hy, e⟩ := List.mem_map.1 h1
    rw [← e]
    exact HF.out y hy
  have hfRr : ∀ r ∈ rs R, FitR 100000000 r := fun r hr => by
    obtain ⟨y, hy, e⟩ := List.mem_map.1 hr
    rw [← e]
    exact hfR y hy
  have hps : psum (rs R) ≤ 10000000 := by
    have := psum_fit (rs R) hfRr
    rw [rs_len] at this
    omega
  have kU := suffixes_any false R (.slice ra R.length rc) w4 (by omega) (Nat.le_trans hps (by omega)) (fun x hx => (hfR x hx).lt) HR4.out.reads
  have HdB := hide' hdb
  clear hdb
  go_wp2_with fail
  refine kU.mono ?_
  rintro e w5 ⟨uv, rfl, hU, hb5⟩
  dsimp only
  have hsl : (sufP false (rs R)).length ≤ 100000000 := by
    have := suf_len (rs R) known
    unfold sufP
    simp only [Bool.false_eq_true, if_false]
    have hk : known.length = 5 := rfl
    omega
  have hsf := sufP_fit (rs R) hfRr
  have kE := newEndings_any (sufP false (rs R)) uv w5 hsl (fun x hx => by have := hsf x hx; omega) hU.reads
  obtain ⟨ua, un, uc, rfl⟩ := hU.reads.form3
  have HR5 := hide' (HR4.out.below hb5)
  have HG5 := hide' (HGR.out.below hb5)
  have HD5 := hide' (HdB.out.below hb5)
  have HB5 := hide' (HBW.out.trans (hb5.mono HBW.out.size))
  clear kU HR4 HGR HdB HBW hb5 d0 hU
  go_wp2_with fail
  refine kE.mono ?_
  rintro e w6 ⟨ev, S, rfl, hes, hse, hb6⟩
  dsimp only
  obtain ⟨ea, en, ec, rfl⟩ := own_form3 hes
  obtain ⟨E, hE⟩ : ∃ E, E = endP (sufP false (rs R)) := ⟨_, rfl⟩
  rw [← hE] at hes hse
  have hEl : E.length ≤ 100000000 := by rw [hE]; exact Nat.le_trans (endP_len _) hsl
  have hEf : ∀ s ∈ E, s.length ≤ 100000000 := fun s hs => by rw [hE] at hs; exact hsf s (endP_mem _ s hs)
  have HE := hide' hE
  have hB6 := HB5.out.trans (hb6.mono HB5.out.size)
  have hbx : Bx2 (w6.alloc (.cells #[.slice ea en ec, .map (some S)] 60)) w6.heap.size (.slice ea en ec) (.map (some S)) := heap_alloc_new w6 _
  have hb7 : Below w6.heap.size w6 (w6.alloc (.cells #[.slice ea en ec, .map (some S)] 60)) := below_alloc (Below.refl _ w6) (Nat.le_refl _) _
  have hN : NwAt w (w6.alloc (.cells #[.slice ea en ec, .map (some S)] 60)) D M BG w6.heap.size S (.slice ra R.length rc) (.slice none 0 0) (.slice ea en ec) R [] E :=
    ⟨(HD5.out.below hb6).below hb7, (HR5.out.below hb6).below hb7, OwnR.nil _ _, (fun _ _ h => by cases h), (HG5.out.below hb6).below hb7, hbx, own_mono (own_below hes hb7) HB5.out.size, hse.below hb7, hB6.trans (hb7.mono hB6.size), hDl⟩
  clear hbx hb7 hB6 hes hse hb6 HR5 HG5 HD5 HB5 kE hsl hsf hE hps
  go_upto_region 3 with fail
  generalize w6.alloc (.cells #[.slice ea en ec, .map (some S)] 60) = w7 at hN ⊢
  generalize w6.heap.size = Eb at hN ⊢
  have d0 := hN.db.c0
  have HN := hide' hN
  clear hN
  go_wp2
  clear d0
  go_loopw [28] (fun i wr => ∃ (k : Nat) (A : List Rx) (lv : Value), k ≤ R.length ∧ i = .int .i64 k ∧ NwAt w wr D M BG Eb S (.slice ra R.length rc) lv (.slice ea en ec) R A E ∧ rs A = (rs (R.take k)).map (toldP E)) (fun i _ => R.length - (intOf i).toNat)
  case atStart => exact ⟨0, [], _, Nat.zero_le _, rfl, HN.out, rfl⟩
  case round =>
    clear HN
    obtain ⟨k, A, lv, hk, rfl, hN, hA⟩ := hrel
    have hAl : A.length = k := by have := congrArg List.length hA; rw [rs_len, List.length_map, rs_len, List.length_take] at this; omega
    by_cases hlt : k < R.length
    · obtain ⟨g1, c1, e1, hra, hg1⟩ := ownR_some hN.rd k hlt
      simp only [Value.slice.injEq, true_and] at e1
      obtain ⟨rfl, rfl⟩ := e1
      have hmem : R.getD k zeroRx ∈ R := by rw [List.getD_eq_getElem?_getD, List.getElem?_eq_getElem hlt]; exact List.getElem_mem hlt
      have hx := hfR _ hmem
      have hxo := hN.rd.lists _ hmem
      have HT : Hid (∀ y : Rx, y.r = toldP E (R.getD k zeroRx).r → rs (A ++ [y]) = (rs (R.take (k + 1))).map (toldP E)) := fun y hy => by
        rw [take_rs R k hlt, List.map_append, ← hA, List.map_singleton, ← hy]
        unfold rs
        rw [List.map_append]
        rfl
      generalize R.getD k zeroRx = x at hra hx hxo HT
      have hx9 : FitR 1000000000 x.r := ⟨hx.lt, hx.lp, hx.lo, hx.lr, fun y hy => by have := hx.nt y hy; omega, fun y hy => by have := hx.np y hy; omega, fun y hy => by have := hx.no y hy; omega, fun y hy => by have := hx.nr y hy; omega, by have := hx.ns; omega, by have := hx.na; omega⟩
      have hAX : wr.heap.size = wr.heap.size := rfl
      have kT := fun W (hW : Below wr.heap.size wr W) => told_any E (.slice ea en ec) S w.heap.size x W hEl (fun s hs => by have := hEf s hs; omega) ((Strs.of_row hN.es).below hW) (hN.se.below hW) (hxo.below hW) hx9 (Nat.le_trans hN.be.size hW.size)
      obtain ⟨⟨tts, tps, tos, tdbl, tpat, tter, tsta, trcp, thas, taga, tblt⟩, va', vb, vc', vd⟩ := x
      obtain ⟨s0, s1, s2, s3⟩ := hxo
      simp only at s0 s1 s2 s3
      obtain ⟨aa, na, ca, rfl⟩ := own_form3 s0
      obtain ⟨ab, nb, cb, rfl⟩ := own_form3 s1
      obtain ⟨ac, nc, cc, rfl⟩ := own_form3 s2
      obtain ⟨ad, nd, cd, rfl⟩ := own_form3 s3
      obtain ⟨q0, q1, q2, q3, q4, q5, q6, q7, q8, q9, q10⟩ := hra
      simp only [Nat.zero_add] at q0 q1 q2 q3 q4 q5 q6 q7 q8 q9 q10
      obtain ⟨sta, hsta⟩ : ∃ sta, sta = mk tsta := ⟨_, rfl⟩
      obtain ⟨aga, haga⟩ : ∃ aga, aga = mk taga := ⟨_, rfl⟩
      rw [← hsta] at q6
      rw [← haga] at q9
      have kT : ∀ W, Below wr.heap.size wr W → Calls Tryd.prog 32 #[.agg #[.slice ea en ec, .map (some S)], .agg #[.slice aa na ca, .slice ab nb cb, .slice ac nc cc, .bool tdbl, .bool tpat, .bool tter, .string sta, .slice ad nd cd, .bool thas, .string aga, .bool tblt]] W _ := fun W hW => by
        rw [hsta, haga]
        exact kT W hW
      rename_i kT0
      clear kT0 s0 s1 s2 s3 hx hx9 hmem hsta haga hAX
      have HA := hide' hA
      have HAL := hide' hAl
      have HNr := hide' hN
      have hdb := hN.db
      have hbx := hN.bx
      clear hA hAl hN
      go_upto_region 6 with fail
      have hX : Bx11 (wr.alloc (.cells #[.slice aa na ca, .slice ab nb cb, .slice ac nc cc, .bool tdbl, .bool tpat, .bool tter, .string sta, .slice ad nd cd, .bool thas, .string aga, .bool tblt] 43)) wr.heap.size (.slice aa na ca) (.slice ab nb cb) (.slice ac nc cc) (.bool tdbl) (.bool tpat) (.bool tter) (.string sta) (.slice ad nd cd) (.bool thas) (.string aga) (.bool tblt) := bx11_at wr (.slice aa na ca) (.slice ab nb cb) (.slice ac nc cc) (.bool tdbl) (.bool tpat) (.bool tter) (.string sta) (.slice ad nd cd) (.bool thas) (.string aga) (.bool tblt)
      have hb2 : Below wr.heap.size wr (wr.alloc (.cells #[.slice aa na ca, .slice ab nb cb, .slice ac nc cc, .bool tdbl, .bool tpat, .bool tter, .string sta, .slice ad nd cd, .bool thas, .string aga, .bool tblt] 43)) := (Below.refl _ wr).alloc (Nat.le_refl _) _
      generalize wr.alloc (.cells #[.slice aa na ca, .slice ab nb cb, .slice ac nc cc, .bool tdbl, .bool tpat, .bool tter, .string sta, .slice ad nd cd, .bool thas, .string aga, .bool tblt] 43) = w8 at hX hb2 ⊢
      have hD8 := hdb.below hb2
      have hE8 := hbx.below hb2
      have hN8 := HNr.out.below hb2
      clear q0 q1 q2 q3 q4 q5 q6 q7 q8 q9 q10 hdb hbx
      refine wp_region_classX [12] (C := fun W => DbC W D (.slice (some ⟨g1, 0, none⟩) R.length rc) lv (.map (some M)) (.slice none 0 0) ∧ Bx2 W Eb (.slice ea en ec) (.map (some S)) ∧ Bx11 W wr.heap.size (.slice aa na ca) (.slice ab nb cb) (.slice ac nc cc) (.bool tdbl) (.bool tpat) (.bool tter) (.string sta) (.slice ad nd cd) (.bool thas) (.string aga) (.bool tblt)) (by kernel_rfl) ?_
      have hC : DbC w8.drew D (.slice (some ⟨g1, 0, none⟩) R.length rc) lv (.map (some M)) (.slice none 0 0) ∧ Bx2 w8.drew Eb (.slice ea en ec) (.map (some S)) ∧ Bx11 w8.drew wr.heap.size (.slice aa na ca) (.slice ab nb cb) (.slice ac nc cc) (.bool tdbl) (.bool tpat) (.bool tter) (.string sta) (.slice ad nd cd) (.bool thas) (.string aga) (.bool tblt) := ⟨hD8, hE8, hX⟩
      obtain ⟨la, ln, lc, rfl⟩ := own_form3 hN8.al.row
      (refine wpAnyX_take (i := 0) (v := ?_) hC rfl (by kernel_rfl) (by kernel_rfl) (by kernel_rfl) (by kernel_rfl) (fun _ _ _ h => h) (Or.inl ⟨by kernel_rfl, ?_⟩) ?_; rotate_left; (intro w hc;  clear hc; go_simp; try with_reducible rfl))
      (refine wpAnyX_take (i := 1) (v := ?_) hC rfl (by kernel_rfl) (by kernel_rfl) (by kernel_rfl) (by kernel_rfl) (fun _ _ _ h => h) (Or.inl ⟨by kernel_rfl, ?_⟩) ?_; rotate_left; (intro w hc;  clear hc; go_simp; try with_reducible rfl))
      (refine wpAnyX_take (i := 2) (v := ?_) hC rfl (by kernel_rfl) (by kernel_rfl) (by kernel_rfl) (by kernel_rfl) (fun _ _ _ h => h) (Or.inl ⟨by kernel_rfl, ?_⟩) ?_; rotate_left; (intro w hc;  clear hc; go_simp; try with_reducible rfl))
      (refine wpAnyX_take (i := 3) (v := ?_) hC rfl (by kernel_rfl) (by kernel_rfl) (by kernel_rfl) (by kernel_rfl) (fun _ _ _ h => h) (Or.inl ⟨by kernel_rfl, ?_⟩) ?_; rotate_left; (intro w hc;  clear hc; go_simp; try with_reducible rfl))
      (refine wpAnyX_take (i := 4) (v := ?_) hC rfl (by kernel_rfl) (by kernel_rfl) (by kernel_rfl) (by kernel_rfl) (fun _ _ _ h => h) (Or.inl ⟨by kernel_rfl, ?_⟩) ?_; rotate_left; (intro w hc; have k0 := hc.1.c1; clear hc; go_simp; try with_reducible rfl))
      (refine wpAnyX_take (i := 5) (v := ?_) hC rfl (by kernel_rfl) (by kernel_rfl) (by kernel_rfl) (by kernel_rfl) (fun _ _ _ h => h) (Or.inl ⟨by kernel_rfl, ?_⟩) ?_; rotate_left; (intro w hc; have k0 := hc.2.1.c0; have k1 := hc.2.1.c1; clear hc; go_simp; try with_reducible rfl))
      (refine wpAnyX_take (i := 6) (v := ?_) hC rfl (by kernel_rfl) (by kernel_rfl) (by kernel_rfl) (by kernel_rfl) (fun _ _ _ h => h) (Or.inl ⟨by kernel_rfl, ?_⟩) ?_; rotate_left; (intro w hc; have x0 := hc.2.2.c0; have x1 := hc.2.2.c1; have x2 := hc.2.2.c2; have x3 := hc.2.2.c3; have x4 := hc.2.2.c4; have x5 := hc.2.2.c5; have x6 := hc.2.2.c6; have x7 := hc.2.2.c7; have x8 := hc.2.2.c8; have x9 := hc.2.2.c9; have x10 := hc.2.2.c10; clear hc; go_simp; try with_reducible rfl))
      go_simp
      refine wpAnyX_one (i := 7) (by kernel_rfl) (wpOp_wanted rfl (by rfl) ?_)
      go_simp
      refine (kT _ hb2.drew).mono ?_
      rintro e w10 ⟨y, rfl, hyr, hyo, hb10⟩
      obtain ⟨za, zn, zc, zb, zm, zd, ze, zp, zf, zg, zq, zh, bd, bp, bt, zs, bh, zt, bb, hyc⟩ := rx_form hyo
      have hyv : rxV y = .agg #[.slice za zn zc, .slice zb zm zd, .slice ze zp zf, .bool bd, .bool bp, .bool bt, .string zs, .slice zg zq zh, .bool bh, .string zt, .bool bb] := congrArg (fun l => Value.agg l.toArray) hyc
      rw [hyv]
      clear hyv
      dsimp only
      have hN10 := (hN8.below ((Below.refl _ w8).drew)).below hb10
      have hC10 : DbC w10 D (.slice (some ⟨g1, 0, none⟩) R.length rc) (.slice la ln lc) (.map (some M)) (.slice none 0 0) ∧ Bx2 w10 Eb (.slice ea en ec) (.map (some S)) ∧ Bx11 w10 wr.heap.size (.slice aa na ca) (.slice ab nb cb) (.slice ac nc cc) (.bool tdbl) (.bool tpat) (.bool tter) (.string sta) (.slice ad nd cd) (.bool thas) (.string aga) (.bool tblt) := ⟨hN10.db, hN10.bx, Bx11.below (w := w8.drew) hX hb10⟩
      refine ⟨hC10, ?_⟩
      refine wpAnyX_one (i := 8) (by kernel_rfl) (wpOp_wanted rfl (by rfl) ?_)
      go_simp
      have h1r := one_rule w10 w.heap.size y hN10.be.size
      rw [hyc] at h1r
      have h1r : (w10.alloc (.cells #[.slice za zn zc, .slice zb zm zd, .slice ze zp zf, .bool bd, .bool bp, .bool bt, .string zs, .slice zg zq zh, .bool bh, .string zt, .bool bb] 43)).ownsRow w.heap.size 43 11 (.slice (some ⟨w10.heap.size, 0, none⟩) [y].length 1) [y].length (flatR [y]) := h1r
      have hba : Below w10.heap.size w10 (w10.alloc (.cells #[.slice za zn zc, .slice zb zm zd, .slice ze zp zf, .bool bd, .bool bp, .bool bt, .string zs, .slice zg zq zh, .bool bh, .string zt, .bool bb] 43)) := below_alloc (Below.refl _ w10) (Nat.le_refl _) _
      have hN11 := hN10.below hba
      have hX11 := hC10.2.2.below hba
      have hyo1 := hyo.below hba
      generalize w10.alloc (.cells #[.slice za zn zc, .slice zb zm zd, .slice ze zp zf, .bool bd, .bool bp, .bool bt, .string zs, .slice zg zq zh, .bool bh, .string zt, .bool bb] 43) = w11 at h1r hba hN11 hX11 hyo1 ⊢
      refine ⟨⟨hN11.db, hN11.bx, hX11⟩, ?_⟩
      obtain ⟨v', w12, hrun, ho12, hg12, hloc⟩ := app_rows hN11.al h1r (fun z hz => by obtain rfl : z = y := by simpa using hz
                                                                                       exact hyo1) (by have := HAL.out; omega) (by simp) hN11.be.size
      have hrun : ∀ ty : TypeId, (Builtin.append_ #[22, 22] ty #[.slice la ln lc, .slice (some ⟨w10.heap.size, 0, none⟩) 1 1]).run Tryd.prog w11 = .ok v' w12 := hrun
      obtain ⟨xa, xn, xc, rfl⟩ := own_form3 ho12.row
      obtain ⟨hD12, hN13⟩ := hN11.row hg12 ho12 hloc
      have hE12 : Bx2 w12 Eb (.slice ea en ec) (.map (some S)) := (hg12.block Eb hN11.bx.lt (fun e => own_block hN11.al.row hN11.bx (by decide) e.symm)).trans hN11.bx
      have hX12 : Bx11 w12 wr.heap.size (.slice aa na ca) (.slice ab nb cb) (.slice ac nc cc) (.bool tdbl) (.bool tpat) (.bool tter) (.string sta) (.slice ad nd cd) (.bool thas) (.string aga) (.bool tblt) := (hg12.block wr.heap.size hX11.lt (fun e => by
        have := own_lt HNr.out.al.row _ e.symm
        omega)).trans hX11
      have hA12 : rs (A ++ [y]) = (rs (R.take (k + 1))).map (toldP E) := HT.out y hyr
      have HN13 := hide' hN13
      have HA12 := hide' hA12
      have HRUN := hide' hrun
      clear hN13 hA12 hrun hg12 ho12 hloc hN11 hX11 hyo1 h1r hba hN10 hyo hyc hyr kT HA HAL
      have hC12 : DbC w12 D (.slice (some ⟨g1, 0, none⟩) R.length rc) (.slice la ln lc) (.map (some M)) (.slice none 0 0) ∧ Bx2 w12 Eb (.slice ea en ec) (.map (some S)) ∧ Bx11 w12 wr.heap.size (.slice aa na ca) (.slice ab nb cb) (.slice ac nc cc) (.bool tdbl) (.bool tpat) (.bool tter) (.string sta) (.slice ad nd cd) (.bool thas) (.string aga) (.bool tblt) := ⟨hD12, hE12, hX12⟩
      refine wpAnyX_one (i := 9) (by kernel_rfl) (wpOp_wanted rfl (by rfl) (wp_app_run _ _ 22 rfl _ _ _ _ rfl rfl HRUN.out ⟨fun _ => hC12, ?_⟩))
      refine wpAnyX_one (i := 10) (by kernel_rfl) (wpOp_wanted rfl (by rfl) ?_)
      go_simp
      refine wpAnyX_one (i := 11) (by kernel_rfl) (wpOp_wanted rfl (by rfl) ?_)
      go_simp
      have y0 := hD12.c1
      have z0 := hD12.fz 1
      refine wpAnyX_one (i := 12) (by kernel_rfl) (wpOp_wanted rfl (by rfl) ?_)
      go_simp
      refine wpAnyX_done (by kernel_rfl) ?_ _
      clear y0 z0 hC12 HRUN hC10 hC hX12 hE12 hD12
      go_wp2
      exact ⟨⟨k + 1, A ++ [y], _, by omega, by go_num, HN13.out, HA12.out⟩, by simp [intOf]; omega⟩
    · have hke : R.take k = R := List.take_of_length_le (by omega)
      rw [hke] at hA
      clear hke
      have hAl2 : A.length ≤ 100 ∧ R.length ≤ A.length := by omega
      have HA := hide' hA
      have HNr := hide' hN
      have hdb := hN.db
      clear hA hAl hN
      go_upto_region 9 with fail
      obtain ⟨la, ln, lc, rfl⟩ := own_form3 HNr.out.al.row
      refine wp_region_classX [9] (C := fun W => DbC W D (.slice ra R.length rc) (.slice la ln lc) (.map (some M)) (.slice none 0 0)) (by kernel_rfl) ?_
      have hC : DbC wr.drew D (.slice ra R.length rc) (.slice la ln lc) (.map (some M)) (.slice none 0 0) := hdb
      have hN9 := HNr.out.below ((Below.refl _ wr).drew)
      have kB := builtins_any wr.drew (HG.out.below hN9.be)
      (refine wpAnyX_take (i := 0) (v := ?_) hC rfl (by kernel_rfl) (by kernel_rfl) (by kernel_rfl) (by kernel_rfl) (fun _ _ _ h => h) (Or.inl ⟨by kernel_rfl, ?_⟩) ?_; rotate_left; (intro w hc;  clear hc; go_simp; try with_reducible rfl))
      (refine wpAnyX_take (i := 1) (v := ?_) hC rfl (by kernel_rfl) (by kernel_rfl) (by kernel_rfl) (by kernel_rfl) (fun _ _ _ h => h) (Or.inl ⟨by kernel_rfl, ?_⟩) ?_; rotate_left; (intro w hc;  clear hc; go_simp; try with_reducible rfl))
      (refine wpAnyX_take (i := 2) (v := ?_) hC rfl (by kernel_rfl) (by kernel_rfl) (by kernel_rfl) (by kernel_rfl) (fun _ _ _ h => h) (Or.inl ⟨by kernel_rfl, ?_⟩) ?_; rotate_left; (intro w hc;  clear hc; go_simp; try with_reducible rfl))
      (refine wpAnyX_take (i := 3) (v := ?_) hC rfl (by kernel_rfl) (by kernel_rfl) (by kernel_rfl) (by kernel_rfl) (fun _ _ _ h => h) (Or.inl ⟨by kernel_rfl, ?_⟩) ?_; rotate_left; (intro w hc;  clear hc; go_simp; try with_reducible rfl))
      (refine wpAnyX_take (i := 4) (v := ?_) hC rfl (by kernel_rfl) (by kernel_rfl) (by kernel_rfl) (by kernel_rfl) (fun _ _ _ h => h) (Or.inl ⟨by kernel_rfl, ?_⟩) ?_; rotate_left; (intro w hc; have k0 := hc.c1; clear hc; go_simp; try with_reducible rfl))
      go_simp
      refine wpAnyX_one (i := 5) (by kernel_rfl) (wpOp_wanted rfl (by rfl) ?_)
      go_simp
      refine kB.mono ?_
      rintro e w10 ⟨bv, rfl, L2, hL2, hbl, hb10⟩
      dsimp only
      have hN10 := hN9.below hb10
      have hC10 : DbC w10 D (.slice ra R.length rc) (.slice la ln lc) (.map (some M)) (.slice none 0 0) := hN10.db
      refine ⟨hC10, ?_⟩
      have hL4 : L2.length = 4 := by
        have := congrArg List.length hbl
        rw [List.length_map] at this
        exact this
      obtain ⟨g2, c2, rfl, _, _⟩ := ownR_some hL2 0 (by omega)
      obtain ⟨v', w12, hrun, ho12, hg12, hloc⟩ := app_rows hN10.al hL2.row (fun z hz => (hL2.lists z hz).mono hN9.be.size) (by omega) (by omega) hN10.be.size
      obtain ⟨xa, xn, xc, rfl⟩ := own_form3 ho12.row
      obtain ⟨hD12, hN13⟩ := hN10.row hg12 ho12 hloc
      have hA12 : rs (A ++ L2) = allP false (rs L) := by
        unfold allP
        rw [← HSM.out, if_neg (by decide), ← HE.out, ← HA.out, ← hbl]
        unfold rs
        rw [List.map_append]
      have HN13 := hide' hN13
      have HA12 := hide' hA12
      have HRUN := hide' hrun
      have HL4 := hide' hL4
      clear hN13 hA12 hrun hg12 ho12 hloc hN10 hN9 kB HA hL4 hbl hL2
      have hC12 : DbC w12 D (.slice ra R.length rc) (.slice la ln lc) (.map (some M)) (.slice none 0 0) := hD12
      refine wpAnyX_one (i := 6) (by kernel_rfl) (wpOp_wanted rfl (by rfl) (wp_app_run _ _ 22 rfl _ _ _ _ rfl rfl HRUN.out ⟨fun _ => hC12, ?_⟩))
      refine wpAnyX_one (i := 7) (by kernel_rfl) (wpOp_wanted rfl (by rfl) ?_)
      go_simp
      refine wpAnyX_one (i := 8) (by kernel_rfl) (wpOp_wanted rfl (by rfl) ?_)
      go_simp
      have y0 := hD12.c1
      have z0 := hD12.fz 1
      refine wpAnyX_one (i := 9) (by kernel_rfl) (wpOp_wanted rfl (by rfl) ?_)
      go_simp
      refine wpAnyX_done (by kernel_rfl) ?_ _
      clear y0 z0 hC12 HRUN hC10 hC hD12 hdb hb10
      generalize w12.setCell ⟨D, 1, none⟩ (.slice xa xn xc) = w13 at HN13 ⊢
      have hAl3 : (A ++ L2).length ≤ 104 ∧ R.length ≤ (A ++ L2).length := by
        rw [List.length_append]
        have := HL4.out
        omega
      generalize A ++ L2 = A2 at HN13 HA12 hAl3
      have hX0 : DbAt w w13 D M BG 0 (.slice ra R.length rc) (.slice xa xn xc) (.slice none 0 0) R A2 (plaP (rs R) (rs A2) 0) := ⟨HN13.out.db, HN13.out.rd, HN13.out.al, HN13.out.gr, HN13.out.be, hDl⟩
      have hfA : ∀ x ∈ A2, FitR 1000000000 x.r := fun x hx => by
        have h1 : x.r ∈ rs A2 := List.mem_map.2 ⟨x, hx, rfl⟩
        rw [HA12.out] at h1
        unfold allP at h1
        rw [← HSM.out, if_neg (by decide), ← HE.out] at h1
        rcases List.mem_append.1 h1 with h1 | h1
        · obtain ⟨y, hy, e⟩ := List.mem_map.1 h1
          rw [← e]
          exact told_fit E y hEf (hfRr y hy)
        · exact blt_fit _ h1
      have HX0 := hide' hX0
      have d0 := hX0.db.c0
      clear HN13 hX0 HNr hR hdb
      go_wp2
      clear d0
      go_loopw [61] (fun i wr => ∃ (k n : Nat), k ≤ R.length ∧ i = .int .i64 k ∧ n ≤ k * 500000 ∧ DbAt w wr D M BG n (.slice ra R.length rc) (.slice xa xn xc) (.slice none 0 0) R A2 (plaP (rs R) (rs A2) k)) (fun i _ => R.length - (intOf i).toNat)
      case atStart => exact ⟨0, 0, Nat.zero_le _, rfl, by omega, HX0.out⟩
      case round =>
        clear HX0
        obtain ⟨m, n, hm, rfl, hn, hX⟩ := hrel
        by_cases hlm : m < R.length
        · have hl2 : m < A2.length := by omega
          have hx : FitR 1000000000 (R.getD m zeroRx).r := by
            have hx := hfR _ (show R.getD m zeroRx ∈ R by rw [List.getD_eq_getElem?_getD, List.getElem?_eq_getElem hlm]; exact List.getElem_mem hlm)
            exact ⟨hx.lt, hx.lp, hx.lo, hx.lr, fun y hy => by have := hx.nt y hy; omega, fun y hy => by have := hx.np y hy; omega, fun y hy => by have := hx.no y hy; omega, fun y hy => by have := hx.nr y hy; omega, by have := hx.ns; omega, by have := hx.na; omega⟩
          have hy := hfA _ (show A2.getD m zeroRx ∈ A2 by rw [List.getD_eq_getElem?_getD, List.getElem?_eq_getElem hl2]; exact List.getElem_mem hl2)
          have kE := enter_any D BG w.heap.size M n m (plaP (rs R) (rs A2) m) (.slice ra R.length rc) (.slice xa xn xc) (.slice none 0 0) R A2 wr hX.db hX.rd hX.al hX.gr (by omega) hlm hl2 (by omega) (by have := hX.db.lt; omega) hx hy
          have hnm := nms_fit _ _ hx hy
          rw [← plaP_step R A2 m hlm hl2] at kE
          have HX := hide' hX
          clear hX hx hy
          go_wp2_with fail
          refine kE.mono ?_
          rintro e w15 ⟨rfl, n', hG', hn', hN'⟩
          dsimp only
          have HY := hide' (HX.out.noted hMl hBGl hN' hG')
          clear kE hG' hN' HX
          go_wp2
          exact ⟨⟨m + 1, n', by omega, by go_num, by omega, HY.out⟩, by simp [intOf]; omega⟩
        · have hmR : m = R.length := by omega
          rw [hmR] at hX
          have kP := parts_any D w.heap.size rc ra (.slice xa xn xc) (.map (some M)) (.slice none 0 0) R.length A2 wr hX.db hX.al (by omega)
          have HX := hide' hX
          clear hX hmR
          go_wp2_with fail
          refine kP.mono ?_
          rintro e w15 ⟨ov, bv, rfl, ho, hbv, hb15⟩
          dsimp only
          have hX15 := HX.out.below hb15
          have kQ := counting_any (A2.take R.length) (A2.drop R.length) ov bv w15 (HG.out.below hX15.be) ho hbv (by rw [List.length_take]; omega) (by rw [List.length_drop]; omega) (fun x hx => hfA x (List.mem_of_mem_take hx)) (fun x hx => hfA x (List.mem_of_mem_drop hx))
          obtain ⟨oa, om, oc, rfl⟩ := rls_form3 ho
          obtain ⟨ba, bm, bc, rfl⟩ := rls_form3 hbv
          have HX15 := hide' hX15
          clear hX15 ho hbv kP HX hb15
          go_wp2_with fail
          refine kQ.mono ?_
          rintro e w16 ⟨iv, rfl, hI, hb16⟩
          dsimp only
          obtain ⟨ia, im, ic, rfl⟩ := own_form3 hI.1
          have hX16 := HX15.out.below hb16
          have hI' : w16.ownsInts w.heap.size 3 .i64 (.slice ia im ic) (nI (impP (rs (A2.take R.length)) (rs (A2.drop R.length)))) := ⟨own_mono hI.1 HX15.out.be.size, hI.2⟩
          obtain ⟨hX17, hI17⟩ := hX16.imp hI'
          have d3 := hX16.db.c3
          have z3 := hX16.db.fz 3
          have e1 : rs (A2.take R.length) = (rs A2).take R.length := by unfold rs; rw [List.map_take]
          have e2 : rs (A2.drop R.length) = (rs A2).drop R.length := by unfold rs; rw [List.map_drop]
          rw [e1, e2, HA12.out, HRL.out] at hI17
          have h17 : DbAt w (w16.setCell ⟨D, 3, none⟩ (.slice ia im ic)) D M BG n (.slice ra R.length rc) (.slice xa xn xc) (.slice ia im ic) R A2 (plaP (rs L) (allP false (rs L)) L.length) := by
            rw [← HSM.out, ← HRL.out, HSM.out, ← HA12.out, ← HSM.out]
            exact hX17
          have HR := hide' (And.intro h17 hI17)
          clear hX16 hX17 hI17 h17 hI hI' HX15 kQ e1 e2 hb16
          have hn5 : n ≤ 50000000 := by omega
          go_wp2
          go_ret
          exact ⟨D, rfl, M, BG, n, _, _, _, R, A2, HR.out.1, HSM.out, HA12.out, hn5, HR.out.2⟩
end Go.Proofs.YtkmedgdpcifnoaaDoor
