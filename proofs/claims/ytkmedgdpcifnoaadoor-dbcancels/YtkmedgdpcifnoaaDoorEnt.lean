/- The contract of db.enter. -/
import Derived.Test.YtkmedgdpcifnoaaDoorNo
import Derived.Test.YtkmedgdpcifnoaaDoorSpe
import Derived.Deep.QuietTactic
import Derived.Deep.Cut
import Derived.Deep.CutBlock
namespace Go.Proofs.YtkmedgdpcifnoaaDoor
open Go.RowKit Go.Shelf

theorem note_nil (D at_ how : Nat) (a : Option Addr) (cap : Nat) (w : World) :
    Calls Tryd.prog 56 #[.pointer (some ⟨D, 0, none⟩), .int .i64 at_, .int .i64 how, .slice a 0 cap] w fun e w' => e = .returned (.tuple #[]) ∧ w' = w := by
  go_enter Tryd.func56, Tryd.ntmps56
  go_wp2
  go_loopw [14] (fun i wr => i = .int .i64 0 ∧ wr = w) (fun _ _ => 0)
  case atStart => exact ⟨rfl, rfl⟩
  case round =>
    obtain ⟨rfl, rfl⟩ := hrel
    go_wp2
    go_end0
    exact ⟨rfl, rfl⟩
theorem note_any (D B B0 M n0 at_ how : Nat) (f : Pf) (v0 v1 v3 v : Value) (L : List Bs) (w : World) (hd : DbC w D v0 v1 (.map (some M)) v3) (hg : GrAt w B M n0 f) (hn0 : n0 ≤ 100000000) (hat : at_ ≤ 1000000) (hh : how ≤ 9) (hl : L.length ≤ 100000) (hBw : B ≤ w.heap.size)
    (hs : ∀ x ∈ L, x.length ≤ 1000000000) (hown : OwnS w B0 v L) :
    Calls Tryd.prog 56 #[.pointer (some ⟨D, 0, none⟩), .int .i64 at_, .int .i64 how, v] w fun e w' => e = .returned (.tuple #[]) ∧ ∃ n, GrAt w' B M n (noteP at_ how f L) ∧ n ≤ n0 + L.length ∧ Nt B M w w' := by
  rcases hown.2 with ⟨rfl, h0⟩ | ⟨g, cap, cur, rfl, _⟩
  · obtain rfl : L = [] := List.length_eq_zero_iff.1 h0
    exact (note_nil D at_ how none 0 w).mono fun e w' ⟨he, hw⟩ => ⟨he, n0, hw ▸ hg, Nat.le_refl _, hw ▸ Nt.refl _ _ _⟩
  · exact note_some D B B0 M n0 at_ how f v0 v1 v3 L g cap w hd hg hn0 hat hh hl hBw hs hown
theorem Nt.rx {B M : Nat} {w w' : World} (h : Nt B M w w') {base : Nat} {x : Rx} (hx : RxO w base x) (hM : ∃ es c, w.heap[M]? = some (.map es c)) : RxO w' base x := ⟨h.row hx.ts (by decide) hM, h.row hx.ps (by decide) hM, h.row hx.os (by decide) hM, h.row hx.rc (by decide) hM⟩
theorem Nt.rows {B M : Nat} {w w' : World} (h : Nt B M w w') {base : Nat} {v : Value} {L : List Rx} (hx : OwnR w base v L) (hM : ∃ es c, w.heap[M]? = some (.map es c)) : OwnR w' base v L := ⟨h.row hx.row (by decide) hM, fun x hm => h.rx (hx.lists x hm) hM⟩
theorem Nt.bx {B M : Nat} {w w' : World} (h : Nt B M w w') {b : Nat} {v0 v1 v2 v3 v4 v5 v6 v7 v8 v9 v10 : Value} (hx : Bx11 w b v0 v1 v2 v3 v4 v5 v6 v7 v8 v9 v10) (hM : ∃ es c, w.heap[M]? = some (.map es c)) : Bx11 w' b v0 v1 v2 v3 v4 v5 v6 v7 v8 v9 v10 := by
  obtain ⟨es, c, hm⟩ := hM
  exact (h.keep b hx.lt (by rintro rfl; unfold Bx11 at hx; rw [hm] at hx; cases hx) (.inr ⟨_, _, _, hx, by decide⟩)).trans hx
theorem GrAt.dm {w : World} {B M n : Nat} {f : Pf} (hg : GrAt w B M n f) {D : Nat} {v0 v1 v2 v3 : Value} (hd : DbC w D v0 v1 v2 v3) : D ≠ M := by
  rintro rfl
  obtain ⟨es, c, hm⟩ := hg.isMap
  unfold DbC at hd
  rw [hm] at hd
  cases hd
theorem ownR_some {w : World} {B0 : Nat} {v : Value} {L : List Rx} (h : OwnR w B0 v L) (k : Nat) (hk : k < L.length) : ∃ g cap, v = .slice (some ⟨g, 0, none⟩) L.length cap ∧ RuAt w g (0 + k * 11) (L.getD k zeroRx) ∧ g < w.heap.size := by
  rcases h.row.2 with ⟨_, h0⟩ | ⟨g, cap, cur, rfl, _, hg, _⟩
  · omega
  · exact ⟨g, cap, rfl, ruAt_row h.row k hk, lt_of_block hg⟩
/-- how many names a rule has, told and read -/
def nmsP (r t : Ru) : Nat := r.ts.length + t.ts.length + t.ts.length + t.ps.length + t.os.length
set_option maxRecDepth 100000 in
set_option maxHeartbeats 4000000 in
theorem enter_any (D B B0 M n0 at_ : Nat) (f : Pf) (rv lv v3 : Value) (R A : List Rx) (w : World) (hd : DbC w D rv lv (.map (some M)) v3) (hR : OwnR w B0 rv R) (hA : OwnR w B0 lv A) (hg : GrAt w B M n0 f) (hn0 : n0 ≤ 50000000) (hat : at_ < R.length) (hat2 : at_ < A.length) (hRl : R.length ≤ 1000000) (hBw : B ≤ w.heap.size)
    (hfr : FitR 1000000000 (R.getD at_ zeroRx).r) (hft : FitR 1000000000 (A.getD at_ zeroRx).r) :
    Calls Tryd.prog 34 #[.pointer (some ⟨D, 0, none⟩), .int .i64 at_] w fun e w' => e = .returned (.tuple #[]) ∧ ∃ n, GrAt w' B M n (entP (R.getD at_ zeroRx).r (A.getD at_ zeroRx).r at_ f) ∧ n ≤ n0 + nmsP (R.getD at_ zeroRx).r (A.getD at_ zeroRx).r ∧ Nt B M w w' := by
  obtain ⟨gr, cr, rfl, hra, hgr⟩ := ownR_some hR at_ hat
  obtain ⟨ga, cga, rfl, haa, hga⟩ := ownR_some hA at_ hat2
  have hrl : RxO w B0 (R.getD at_ zeroRx) := hR.lists _ (by rw [List.getD_eq_getElem?_getD, List.getElem?_eq_getElem hat]; exact List.getElem_mem hat)
  have hal : RxO w B0 (A.getD at_ zeroRx) := hA.lists _ (by rw [List.getD_eq_getElem?_getD, List.getElem?_eq_getElem hat2]; exact List.getElem_mem hat2)
  have hDM := hg.dm hd
  have hrows := hA.row
  have hAR : ∀ {w' : World}, w'.ownsRow B0 43 11 (.slice (some ⟨ga, 0, none⟩) A.length cga) A.length (flatR A) → RuAt w' ga (0 + at_ * 11) (A.getD at_ zeroRx) := fun h => ruAt_row h at_ hat2
  generalize R.getD at_ zeroRx = xr at hra hrl hfr ⊢
  generalize A.getD at_ zeroRx = xt at haa hal hft hAR ⊢
  obtain ⟨R0, hR0⟩ : ∃ R0, R0 = entP xr.r xt.r at_ f := ⟨_, rfl⟩
  obtain ⟨N0, hN0⟩ : ∃ N0, N0 = nmsP xr.r xt.r := ⟨_, rfl⟩
  rw [← hR0, ← hN0]
  have HR0 := hide' hR0
  have HN0 : Hid (N0 = xr.r.ts.length + xt.r.ts.length + xt.r.ts.length + xt.r.ps.length + xt.r.os.length) := hN0
  clear hR0 hN0
  have q0 := hra.c0
  obtain ⟨ua, um, uc, hu⟩ := own_form3 hrl.ts
  have kN := note_any D B B0 M n0 at_ 0 f _ _ _ xr.a xr.r.ts w hd hg (by omega) (by omega) (by omega) hfr.lt hBw hfr.nt hrl.ts
  rw [hu] at q0 kN
  have d0 := hd.c0
  have e1 : (0 : Nat) + at_ * 11 = at_ * 11 := Nat.zero_add _
  rw [e1] at q0
  have HD := hide' hd
  have HG := hide' (And.intro hg hrows)
  have HAL := hide' hal
  have HAR : Hid (∀ {w' : World}, w'.ownsRow B0 43 11 (.slice (some ⟨ga, 0, none⟩) A.length cga) A.length (flatR A) → RuAt w' ga (0 + at_ * 11) xt) := hAR
  have HRL := hide' hrl
  clear hd hg hR hA hra haa hrl hal hrows hAR
  go_enter Tryd.func34, Tryd.ntmps34
  go_wp2_with fail
  refine kN.mono ?_
  rintro e w1 ⟨rfl, n1, hG1, hn1, hN1⟩
  dsimp only
  have hM0 := HG.out.1.isMap
  have hM1 := hG1.isMap
  have hd1 := hN1.db HD.out hDM
  have hxt := hN1.rx HAL.out hM0
  have hrow1 := HAR.out (hN1.row HG.out.2 (by decide) hM0)
  have hB1 : B ≤ w1.heap.size := Nat.le_trans hBw hN1.size
  clear q0 d0 kN HG HAL HAR
  obtain ⟨⟨tts, tps, tos, tdbl, tpat, tter, tsta, trcp, thas, taga, tblt⟩, va, vb, vc, vd⟩ := xt
  obtain ⟨h0, h1, h2, h3⟩ := hxt
  simp only at h0 h1 h2 h3 hrow1 hft ⊢
  obtain ⟨aa, na, ca, rfl⟩ := own_form3 h0
  obtain ⟨ab, nb, cb, rfl⟩ := own_form3 h1
  obtain ⟨ac, nc, cc, rfl⟩ := own_form3 h2
  obtain ⟨ad, nd, cd, rfl⟩ := own_form3 h3
  obtain ⟨f0, f1, f2, f3, m0, m1, m2, m3, m4, m5⟩ := hft
  simp only at f0 f1 f2 m0 m1 m2
  obtain ⟨q0, q1, q2, q3, q4, q5, q6, q7, q8, q9, q10⟩ := hrow1
  rw [e1] at q0 q1 q2 q3 q4 q5 q6 q7 q8 q9 q10
  simp only at q0 q1 q2 q3 q4 q5 q6 q7 q8 q9 q10
  obtain ⟨sta, hsta⟩ : ∃ sta, sta = mk tsta := ⟨_, rfl⟩
  obtain ⟨aga, haga⟩ : ∃ aga, aga = mk taga := ⟨_, rfl⟩
  rw [← hsta] at q6
  rw [← haga] at q9
  have d1 := hd1.c1
  have HST := hide' (And.intro hsta haga)
  have HL := hide' (And.intro h0 (And.intro h1 h2))
  have HD1 := hide' hd1
  have HG1 := hide' hG1
  have HN1 := hide' hN1
  have HF := hide' (And.intro f0 (And.intro f1 (And.intro f2 (And.intro m0 (And.intro m1 m2)))))
  clear hsta haga h0 h1 h2 h3 hd1 hG1 hN1 f0 f1 f2 f3 m0 m1 m2 m3 m4 m5 hM0
  go_upto_region 2 with fail
  have hX : Bx11 (w1.alloc (.cells #[.slice aa na ca, .slice ab nb cb, .slice ac nc cc, .bool tdbl, .bool tpat, .bool tter, .string sta, .slice ad nd cd, .bool thas, .string aga, .bool tblt] 43)) w1.heap.size (.slice aa na ca) (.slice ab nb cb) (.slice ac nc cc) (.bool tdbl) (.bool tpat) (.bool tter) (.string sta) (.slice ad nd cd) (.bool thas) (.string aga) (.bool tblt) := bx11_at w1 (.slice aa na ca) (.slice ab nb cb) (.slice ac nc cc) (.bool tdbl) (.bool tpat) (.bool tter) (.string sta) (.slice ad nd cd) (.bool thas) (.string aga) (.bool tblt)
  have hb2 : Below w1.heap.size w1 (w1.alloc (.cells #[.slice aa na ca, .slice ab nb cb, .slice ac nc cc, .bool tdbl, .bool tpat, .bool tter, .string sta, .slice ad nd cd, .bool thas, .string aga, .bool tblt] 43)) := (Below.refl _ _).alloc (Nat.le_refl _) _
  generalize w1.alloc (.cells #[.slice aa na ca, .slice ab nb cb, .slice ac nc cc, .bool tdbl, .bool tpat, .bool tter, .string sta, .slice ad nd cd, .bool thas, .string aga, .bool tblt] 43) = w2 at hX hb2 ⊢
  clear q0 q1 q2 q3 q4 q5 q6 q7 q8 q9 q10 d1
  generalize hAX : w1.heap.size = AX at hX ⊢
  clear hAX
  have x0 := hX.c0
  have x1 := hX.c1
  have x2 := hX.c2
  have x4 := hX.c4
  have hN2 : Nt B M w w2 := HN1.out.trans (Nt.of_below hb2)
  have hG2 := HG1.out.below hb2
  have hB2 : B ≤ w2.heap.size := Nat.le_trans hB1 hb2.size
  cases htp : tpat with
  | true =>
    have HR1 : Hid (R0 = noteP at_ 0 f xr.r.ts) := by
      show _ = _
      rw [HR0.out]
      unfold entP
      simp only [htp, if_true]
    rw [htp] at x4
    have HN2 := hide' hN2
    have HG2 := hide' hG2
    clear hX hb2 hN2 hG2 x0 x1 x2 htp
    go_wp2
    refine bodyPost_ret (results_none rfl _ _ _) rfl ?_
    exact ⟨rfl, n1, HR1.out ▸ HG2.out, by have := HN0.out; omega, HN2.out⟩
  | false =>
    rw [htp] at x4
    have hd2 := HD1.out.below hb2
    have l2 : OwnS w2 B0 (.slice aa na ca) tts := own_below HL.out.1 hb2
    have kN1 := note_any D B B0 M n1 at_ 1 (noteP at_ 0 f xr.r.ts) _ _ _ _ tts w2 hd2 hG2 (by have := hfr.lt; omega) (by omega) (by omega) HF.out.1 hB2 HF.out.2.2.2.1 l2
    have HX := hide' hX
    have HN2 := hide' hN2
    have HG2 := hide' hG2
    have HD2 := hide' hd2
    have hl2 := hide' (And.intro l2 (And.intro (own_below HL.out.2.1 hb2) (own_below HL.out.2.2 hb2)))
    clear hX hN2 hG2 hd2 l2 hb2 HL
    go_wp2_with fail
    refine kN1.mono ?_
    rintro e w3 ⟨rfl, n3, hG3, hn3, hN3⟩
    dsimp only
    have hM2 := HG2.out.isMap
    have hX3 := hN3.bx HX.out hM2
    have hd3 := hN3.db HD2.out hDM
    have l3 := hN3.row hl2.out.1 (by decide) hM2
    have p3 := hN3.row hl2.out.2.1 (by decide) hM2
    have o3 := hN3.row hl2.out.2.2 (by decide) hM2
    have hNN := HN2.out.trans hN3
    have hB3 : B ≤ w3.heap.size := Nat.le_trans hB2 hN3.size
    have y0 := hX3.c0
    have y1 := hX3.c1
    have y2 := hX3.c2
    have kC := fun W (hW : W = w3) => containsFunc_any tts (.slice aa na ca) W HF.out.1 (hW ▸ Strs.of_row l3)
    have HL3 := hide' (And.intro l3 (And.intro p3 o3))
    have HX3 := hide' hX3
    have HN3 := hide' hNN
    have HG3 := hide' hG3
    have HD3 := hide' hd3
    clear kN1 x0 x1 x2 x4 hX3 hd3 l3 p3 o3 hNN hG3 hN3 hM2
    cases hsp : tts.any speI with
    | true =>
      rw [hsp] at kC
      have HR1 : Hid (R0 = noteP at_ 1 (noteP at_ 0 f xr.r.ts) tts) := by
        show _ = _
        rw [HR0.out]
        unfold entP
        simp only [htp, hsp, if_true, Bool.false_eq_true, if_false]
      clear hsp htp
      go_wp2_with fail
      refine (kC _ rfl).mono ?_
      rintro e w4 ⟨rfl, rfl⟩
      clear kC
      go_wp2
      refine bodyPost_ret (results_none rfl _ _ _) rfl ?_
      exact ⟨rfl, n3, HR1.out ▸ HG3.out, by have := HN0.out; omega, HN3.out⟩
    | false =>
      rw [hsp] at kC
      have HR1 : Hid (R0 = noteP at_ 2 (noteP at_ 2 (noteP at_ 2 (noteP at_ 1 (noteP at_ 0 f xr.r.ts) tts) tts) tps) tos) := by
        show _ = _
        rw [HR0.out]
        unfold entP
        simp only [htp, hsp, Bool.false_eq_true, if_false]
      clear hsp htp
      go_wp2_with fail
      refine (kC _ rfl).mono ?_
      rintro e w4 ⟨rfl, rfl⟩
      clear kC
      go_wp2
      clear y0 y1 y2
      have i0 : ∀ W, (Instr.index 95 (.agg #[.slice aa na ca, .slice ab nb cb, .slice ac nc cc]) (.int .i64 0)).run Tryd.prog W = .ok (.slice aa na ca) W := fun W => by kernel_rfl
      have i1 : ∀ W, (Instr.index 95 (.agg #[.slice aa na ca, .slice ab nb cb, .slice ac nc cc]) (.int .i64 1)).run Tryd.prog W = .ok (.slice ab nb cb) W := fun W => by kernel_rfl
      have i2 : ∀ W, (Instr.index 95 (.agg #[.slice aa na ca, .slice ab nb cb, .slice ac nc cc]) (.int .i64 2)).run Tryd.prog W = .ok (.slice ac nc cc) W := fun W => by kernel_rfl
      obtain ⟨F3, hF3⟩ : ∃ F3, F3 = noteP at_ 1 (noteP at_ 0 f xr.r.ts) tts := ⟨_, rfl⟩
      rw [← hF3] at HG3 HR1
      clear hF3
      have kA := fun W (hW : W = w4) => note_any D B B0 M n3 at_ 2 F3 _ _ _ _ tts W (hW ▸ HD3.out) (hW ▸ HG3.out) (by have := hfr.lt; have := HF.out.1; omega) (by omega) (by omega) HF.out.1 (hW ▸ hB3) HF.out.2.2.2.1 (hW ▸ HL3.out.1)
      refine wp_loop_rounds 4 ?_
      rw [rounds_succ]
      go_wp2_with fail
      refine (kA _ rfl).mono ?_
      rintro e w5 ⟨rfl, n5, hG5, hn5, hN5⟩
      dsimp only
      have hM4 := HG3.out.isMap
      have hd5 := hN5.db HD3.out hDM
      have p5 := hN5.row HL3.out.2.1 (by decide) hM4
      have o5 := hN5.row HL3.out.2.2 (by decide) hM4
      have HN5 := hide' (HN3.out.trans hN5)
      have HL5 := hide' (And.intro p5 o5)
      have HG5 := hide' hG5
      have HD5 := hide' hd5
      have hB5 : B ≤ w5.heap.size := Nat.le_trans hB3 hN5.size
      clear kA hG5 hN5 hd5 p5 o5 hM4 HL3
      have kB := fun W (hW : W = w5) => note_any D B B0 M n5 at_ 2 (noteP at_ 2 F3 tts) _ _ _ _ tps W (hW ▸ HD5.out) (hW ▸ HG5.out) (by have := hfr.lt; have := HF.out.1; omega) (by omega) (by omega) HF.out.2.1 (hW ▸ hB5) HF.out.2.2.2.2.1 (hW ▸ HL5.out.1)
      go_wp2
      rw [rounds_succ]
      go_wp2_with fail
      refine (kB _ rfl).mono ?_
      rintro e w6 ⟨rfl, n6, hG6, hn6, hN6⟩
      dsimp only
      have hM5 := HG5.out.isMap
      have hd6 := hN6.db HD5.out hDM
      have o6 := hN6.row HL5.out.2 (by decide) hM5
      have HN6 := hide' (HN5.out.trans hN6)
      have HL6 := hide' o6
      have HG6 := hide' hG6
      have HD6 := hide' hd6
      have hB6 : B ≤ w6.heap.size := Nat.le_trans hB5 hN6.size
      clear kB hG6 hN6 hd6 o6 hM5 HL5
      have kO := fun W (hW : W = w6) => note_any D B B0 M n6 at_ 2 (noteP at_ 2 (noteP at_ 2 F3 tts) tps) _ _ _ _ tos W (hW ▸ HD6.out) (hW ▸ HG6.out) (by have := hfr.lt; have := HF.out.1; have := HF.out.2.1; omega) (by omega) (by omega) HF.out.2.2.1 (hW ▸ hB6) HF.out.2.2.2.2.2 (hW ▸ HL6.out)
      go_wp2
      rw [rounds_succ]
      go_wp2_with fail
      refine (kO _ rfl).mono ?_
      rintro e w7 ⟨rfl, n7, hG7, hn7, hN7⟩
      dsimp only
      have HN7 := hide' (HN6.out.trans hN7)
      have HG7 := hide' hG7
      clear kO hG7 hN7
      go_wp2
      rw [rounds_succ]
      go_wp2
      go_end0
      exact ⟨rfl, n7, HR1.out ▸ HG7.out, by have := HN0.out; omega, HN7.out⟩
end Go.Proofs.YtkmedgdpcifnoaaDoor
