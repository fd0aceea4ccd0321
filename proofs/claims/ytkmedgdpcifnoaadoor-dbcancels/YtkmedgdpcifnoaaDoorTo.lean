/- The contract of db.endings.told. -/
import Derived.Test.YtkmedgdpcifnoaaDoorPa
import Derived.Deep.QuietTactic
import Derived.Deep.Cut
import Derived.Deep.CutBlock
namespace Go.Proofs.YtkmedgdpcifnoaaDoor
open Go.RowKit Go.Shelf

theorem part_len (all : List Bs) (t : Bs) : ∀ e : List Bs, (∀ s ∈ e, s.length ≤ 1000000000) → t.length ≤ 1000000000 → (partP all t e).1.length ≤ 1000000000 ∧ (partP all t e).2.1.length ≤ 1000000000
  | [], _, ht => ⟨ht, by simp [partP]⟩
  | s :: r, hs, ht => by
    unfold partP
    split
    · exact ⟨hs s (by simp), by simp only [List.length_drop]; omega⟩
    · exact part_len all t r (fun x hx => hs x (by simp [hx])) ht
theorem one_row (W : World) (B : Nat) (x : Bs) (y : ByteArray) (hB : B ≤ W.heap.size) (hy : y = mk x) : OwnS (W.alloc (.cells #[.string y] 9)) B (.slice (some ⟨W.heap.size, 0, none⟩) 1 1) [x] := by
  subst hy
  exact ⟨rfl, .inr ⟨W.heap.size, 1, _, rfl, hB, heap_alloc_new W _, Nat.le_refl _, by unfold maxLen; omega, rfl, rfl⟩⟩
theorem own_put11 {w : World} {B e size n A : Nat} {v u0 u1 u2 u3 u4 u5 u6 u7 u8 u9 u10 : Value} {xs : List Value} (h : w.ownsRow B e size v n xs) (hA : Bx11 w A u0 u1 u2 u3 u4 u5 u6 u7 u8 u9 u10) (he : 43 ≠ e) (v0 v1 v2 v3 v4 v5 v6 v7 v8 v9 v10 : Value) : (put11 w A v0 v1 v2 v3 v4 v5 v6 v7 v8 v9 v10).ownsRow B e size v n xs :=
  own_kept h fun g hg => by
    have hne : g ≠ A := fun e1 => own_block h hA he (e1 ▸ hg)
    exact (set_other _ _ _ _ hne).trans ((set_other _ _ _ _ hne).trans ((set_other _ _ _ _ hne).trans ((set_other _ _ _ _ hne).trans ((set_other _ _ _ _ hne).trans ((set_other _ _ _ _ hne).trans ((set_other _ _ _ _ hne).trans ((set_other _ _ _ _ hne).trans ((set_other _ _ _ _ hne).trans ((set_other _ _ _ _ hne).trans (set_other _ _ _ _ hne))))))))))
theorem drw {w : World} {b : Nat} {v0 v1 : Value} (h : Bx2 w b v0 v1) : Bx2 w.drew b v0 v1 := h
set_option maxRecDepth 100000 in
set_option maxHeartbeats 8000000 in
theorem told_any (e : List Bs) (lv : Value) (M B : Nat) (x : Rx) (w : World) (hl : e.length ≤ 100000000) (hs : ∀ s ∈ e, s.length ≤ 1000000000) (he : Strs w lv e) (hM : SetAt w M e) (h : RxO w B x) (hf : FitR 1000000000 x.r) (hB : B ≤ w.heap.size) :
    Calls Tryd.prog 32 #[.agg #[lv, .map (some M)], rxV x] w fun r w' => ∃ y : Rx, r = .returned (rxV y) ∧ y.r = toldP e x.r ∧ RxO w' B y ∧ Below w.heap.size w w' := by
  obtain ⟨R, hR⟩ : ∃ R, R = toldP e x.r := ⟨_, rfl⟩
  have HR := hide' hR
  rw [← hR]
  clear hR
  have kB := fun W (hW : Below w.heap.size w W) => bare_any x W (h.below hW).reads hf
  obtain ⟨al, nl, cl, rfl⟩ := he.form3
  have HO := hide' h
  have HF := hide' hf
  have hrow := h.ts
  obtain ⟨⟨rts, rps, ros, rdbl, rpat, rter, rsta, rrcp, rhas, raga, rblt⟩, va, vb, vc, vd⟩ := x
  obtain ⟨h0, h1, h2, h3⟩ := h
  simp only at h0 h1 h2 h3 hrow
  obtain ⟨aa, na, ca, rfl⟩ := own_form3 h0
  obtain ⟨ab, nb, cb, rfl⟩ := own_form3 h1
  obtain ⟨ac, nc, cc, rfl⟩ := own_form3 h2
  obtain ⟨ad, nd, cd, rfl⟩ := own_form3 h3
  clear h0 h1 h2 h3 hf
  obtain ⟨sta, hsta⟩ : ∃ sta, sta = mk rsta := ⟨_, rfl⟩
  obtain ⟨aga, haga⟩ : ∃ aga, aga = mk raga := ⟨_, rfl⟩
  have hcs : rxC ⟨⟨rts, rps, ros, rdbl, rpat, rter, rsta, rrcp, rhas, raga, rblt⟩, .slice aa na ca, .slice ab nb cb, .slice ac nc cc, .slice ad nd cd⟩ = [.slice aa na ca, .slice ab nb cb, .slice ac nc cc, .bool rdbl, .bool rpat, .bool rter, .string sta, .slice ad nd cd, .bool rhas, .string aga, .bool rblt] := by
    rw [hsta, haga]; rfl
  have kB' : ∀ W, Below w.heap.size w W → Calls Tryd.prog 54 #[.agg #[.slice aa na ca, .slice ab nb cb, .slice ac nc cc, .bool rdbl, .bool rpat, .bool rter, .string sta, .slice ad nd cd, .bool rhas, .string aga, .bool rblt]] W fun r w' => r = .returned (.bool (bareP ⟨rts, rps, ros, rdbl, rpat, rter, rsta, rrcp, rhas, raga, rblt⟩)) ∧ Below W.heap.size W w' := fun W hW => by
    have := kB W hW
    unfold rxV at this
    rw [hcs] at this
    exact this
  clear kB
  show Calls Tryd.prog 32 #[.agg #[.slice al nl cl, .map (some M)], .agg (rxC ⟨⟨rts, rps, ros, rdbl, rpat, rter, rsta, rrcp, rhas, raga, rblt⟩, .slice aa na ca, .slice ab nb cb, .slice ac nc cc, .slice ad nd cd⟩).toArray] w _
  rw [hcs]
  have HCS := hide' hcs
  have HST := hide' (And.intro hsta haga)
  clear hcs hsta haga
  have hE : Bx2 (((w.alloc (.cells #[.slice al nl cl, .map (some M)] 60)).alloc (.cells #[.slice aa na ca, .slice ab nb cb, .slice ac nc cc, .bool rdbl, .bool rpat, .bool rter, .string sta, .slice ad nd cd, .bool rhas, .string aga, .bool rblt] 43)).alloc (.cells #[.slice none 0 0, .slice none 0 0, .slice none 0 0, .bool false, .bool false, .bool false, .string ⟨#[]⟩, .slice none 0 0, .bool false, .string ⟨#[]⟩, .bool false] 43)) w.heap.size (.slice al nl cl) (.map (some M)) := by
    have h1 : Bx2 (w.alloc (.cells #[.slice al nl cl, .map (some M)] 60)) w.heap.size (.slice al nl cl) (.map (some M)) := heap_alloc_new w _
    exact (h1.below ((Below.refl _ _).alloc (Nat.le_refl _) _)).below ((Below.refl _ _).alloc (Nat.le_refl _) _)
  have hX : Bx11 (((w.alloc (.cells #[.slice al nl cl, .map (some M)] 60)).alloc (.cells #[.slice aa na ca, .slice ab nb cb, .slice ac nc cc, .bool rdbl, .bool rpat, .bool rter, .string sta, .slice ad nd cd, .bool rhas, .string aga, .bool rblt] 43)).alloc (.cells #[.slice none 0 0, .slice none 0 0, .slice none 0 0, .bool false, .bool false, .bool false, .string ⟨#[]⟩, .slice none 0 0, .bool false, .string ⟨#[]⟩, .bool false] 43)) (w.heap.size + 1) (.slice aa na ca) (.slice ab nb cb) (.slice ac nc cc) (.bool rdbl) (.bool rpat) (.bool rter) (.string sta) (.slice ad nd cd) (.bool rhas) (.string aga) (.bool rblt) := by
    have h1 := bx11_at (w.alloc (.cells #[.slice al nl cl, .map (some M)] 60)) (.slice aa na ca) (.slice ab nb cb) (.slice ac nc cc) (.bool rdbl) (.bool rpat) (.bool rter) (.string sta) (.slice ad nd cd) (.bool rhas) (.string aga) (.bool rblt)
    rw [World.size_alloc] at h1
    exact h1.alloc _
  have hZ : Bx11 (((w.alloc (.cells #[.slice al nl cl, .map (some M)] 60)).alloc (.cells #[.slice aa na ca, .slice ab nb cb, .slice ac nc cc, .bool rdbl, .bool rpat, .bool rter, .string sta, .slice ad nd cd, .bool rhas, .string aga, .bool rblt] 43)).alloc (.cells #[.slice none 0 0, .slice none 0 0, .slice none 0 0, .bool false, .bool false, .bool false, .string ⟨#[]⟩, .slice none 0 0, .bool false, .string ⟨#[]⟩, .bool false] 43)) (w.heap.size + 1 + 1) (.slice none 0 0) (.slice none 0 0) (.slice none 0 0) (.bool false) (.bool false) (.bool false) (.string ⟨#[]⟩) (.slice none 0 0) (.bool false) (.string ⟨#[]⟩) (.bool false) := by
    have h1 := bx11_at ((w.alloc (.cells #[.slice al nl cl, .map (some M)] 60)).alloc (.cells #[.slice aa na ca, .slice ab nb cb, .slice ac nc cc, .bool rdbl, .bool rpat, .bool rter, .string sta, .slice ad nd cd, .bool rhas, .string aga, .bool rblt] 43)) (.slice none 0 0) (.slice none 0 0) (.slice none 0 0) (.bool false) (.bool false) (.bool false) (.string ⟨#[]⟩) (.slice none 0 0) (.bool false) (.string ⟨#[]⟩) (.bool false)
    rw [World.size_alloc, World.size_alloc] at h1
    exact h1
  have hB1 : Below w.heap.size w (((w.alloc (.cells #[.slice al nl cl, .map (some M)] 60)).alloc (.cells #[.slice aa na ca, .slice ab nb cb, .slice ac nc cc, .bool rdbl, .bool rpat, .bool rter, .string sta, .slice ad nd cd, .bool rhas, .string aga, .bool rblt] 43)).alloc (.cells #[.slice none 0 0, .slice none 0 0, .slice none 0 0, .bool false, .bool false, .bool false, .string ⟨#[]⟩, .slice none 0 0, .bool false, .string ⟨#[]⟩, .bool false] 43)) := below_alloc (below_alloc (below_alloc (Below.refl _ w) (Nat.le_refl _) _) (Nat.le_refl _) _) (Nat.le_refl _) _
  go_enter Tryd.func32, Tryd.ntmps32
  go_wp2_with fail
  refine (kB' _ hB1).mono ?_
  rintro r w1 ⟨rfl, hb1⟩
  replace hE := hE.below hb1
  replace hX := hX.below hb1
  replace hZ := hZ.below hb1
  replace hB1 := hB1.trans (hb1.mono hB1.size)
  clear hb1 kB'
  dsimp only
  obtain ⟨AZ, hAZ⟩ : ∃ AZ, AZ = w.heap.size + 1 + 1 := ⟨_, rfl⟩
  obtain ⟨AX, hAX⟩ : ∃ AX, AX = w.heap.size + 1 := ⟨_, rfl⟩
  have hXZ : AX ≠ AZ := by omega
  have hwX : w.heap.size ≤ AX := by omega
  have hwZ : w.heap.size ≤ AZ := by omega
  rw [← hAZ] at hZ ⊢
  rw [← hAX] at hX ⊢
  clear hAZ hAX
  generalize hAE : w.heap.size = AE at hE ⊢
  have HAE := hide' hAE
  have HW := hide' (And.intro hwX hwZ)
  clear hAE hwX hwZ
  cases hbr : bareP ⟨rts, rps, ros, rdbl, rpat, rter, rsta, rrcp, rhas, raga, rblt⟩ with
  | false =>
    have HR' : Hid (R = ⟨rts, rps, ros, rdbl, rpat, rter, rsta, rrcp, rhas, raga, rblt⟩) := by
      show _ = _
      rw [HR.out]
      unfold toldP
      rw [hbr]
      rfl
    clear hbr HR hE hM he hs
    have k0 := hX.c0
    have k1 := hX.c1
    have k2 := hX.c2
    have k3 := hX.c3
    have k4 := hX.c4
    have k5 := hX.c5
    have k6 := hX.c6
    have k7 := hX.c7
    have k8 := hX.c8
    have k9 := hX.c9
    have k10 := hX.c10
    have z0 := hZ.c0
    have z1 := hZ.c1
    have z2 := hZ.c2
    have z3 := hZ.c3
    have z4 := hZ.c4
    have z5 := hZ.c5
    have z6 := hZ.c6
    have z7 := hZ.c7
    have z8 := hZ.c8
    have z9 := hZ.c9
    have z10 := hZ.c10
    have f0 := hZ.fz 0
    have f1 := hZ.fz 1
    have f2 := hZ.fz 2
    have f3 := hZ.fz 3
    have f4 := hZ.fz 4
    have f5 := hZ.fz 5
    have f6 := hZ.fz 6
    have f7 := hZ.fz 7
    have f8 := hZ.fz 8
    have f9 := hZ.fz 9
    have f10 := hZ.fz 10
    have HX := hide' hX
    have HZ := hide' hZ
    have HB1 := hide' hB1
    clear hX hZ hB1
    go_wp2
    have hF : Bx11 (((((((((((w1.setCell ⟨AZ, 0, none⟩ (.slice aa na ca)).setCell ⟨AZ, 1, none⟩ (.slice ab nb cb)).setCell ⟨AZ, 2, none⟩ (.slice ac nc cc)).setCell ⟨AZ, 3, none⟩ (.bool rdbl)).setCell ⟨AZ, 4, none⟩ (.bool rpat)).setCell ⟨AZ, 5, none⟩ (.bool rter)).setCell ⟨AZ, 6, none⟩ (.string sta)).setCell ⟨AZ, 7, none⟩ (.slice ad nd cd)).setCell ⟨AZ, 8, none⟩ (.bool rhas)).setCell ⟨AZ, 9, none⟩ (.string aga)).setCell ⟨AZ, 10, none⟩ (.bool rblt)) AZ (.slice aa na ca) (.slice ab nb cb) (.slice ac nc cc) (.bool rdbl) (.bool rpat) (.bool rter) (.string sta) (.slice ad nd cd) (.bool rhas) (.string aga) (.bool rblt) := HZ.out.set
    have hBF : Below w.heap.size w (((((((((((w1.setCell ⟨AZ, 0, none⟩ (.slice aa na ca)).setCell ⟨AZ, 1, none⟩ (.slice ab nb cb)).setCell ⟨AZ, 2, none⟩ (.slice ac nc cc)).setCell ⟨AZ, 3, none⟩ (.bool rdbl)).setCell ⟨AZ, 4, none⟩ (.bool rpat)).setCell ⟨AZ, 5, none⟩ (.bool rter)).setCell ⟨AZ, 6, none⟩ (.string sta)).setCell ⟨AZ, 7, none⟩ (.slice ad nd cd)).setCell ⟨AZ, 8, none⟩ (.bool rhas)).setCell ⟨AZ, 9, none⟩ (.string aga)).setCell ⟨AZ, 10, none⟩ (.bool rblt)) := put11_below HB1.out HW.out.2 (.slice aa na ca) (.slice ab nb cb) (.slice ac nc cc) (.bool rdbl) (.bool rpat) (.bool rter) (.string sta) (.slice ad nd cd) (.bool rhas) (.string aga) (.bool rblt)
    generalize ((((((((((w1.setCell ⟨AZ, 0, none⟩ (.slice aa na ca)).setCell ⟨AZ, 1, none⟩ (.slice ab nb cb)).setCell ⟨AZ, 2, none⟩ (.slice ac nc cc)).setCell ⟨AZ, 3, none⟩ (.bool rdbl)).setCell ⟨AZ, 4, none⟩ (.bool rpat)).setCell ⟨AZ, 5, none⟩ (.bool rter)).setCell ⟨AZ, 6, none⟩ (.string sta)).setCell ⟨AZ, 7, none⟩ (.slice ad nd cd)).setCell ⟨AZ, 8, none⟩ (.bool rhas)).setCell ⟨AZ, 9, none⟩ (.string aga)).setCell ⟨AZ, 10, none⟩ (.bool rblt) = W at hF hBF ⊢
    clear k0 z0 f0 k1 z1 f1 k2 z2 f2 k3 z3 f3 k4 z4 f4 k5 z5 f5 k6 z6 f6 k7 z7 f7 k8 z8 f8 k9 z9 f9 k10 z10 f10
    have e0 := hF.c0
    have e1 := hF.c1
    have e2 := hF.c2
    have e3 := hF.c3
    have e4 := hF.c4
    have e5 := hF.c5
    have e6 := hF.c6
    have e7 := hF.c7
    have e8 := hF.c8
    have e9 := hF.c9
    have e10 := hF.c10
    refine bodyPost_ret (by simp [results, Tryd.results32, go_sem, e0, e1, e2, e3, e4, e5, e6, e7, e8, e9, e10]; rfl) rfl ?_
    exact ⟨⟨⟨rts, rps, ros, rdbl, rpat, rter, rsta, rrcp, rhas, raga, rblt⟩, .slice aa na ca, .slice ab nb cb, .slice ac nc cc, .slice ad nd cd⟩, by unfold rxV; rw [HCS.out], HR'.out.symm, HO.out.below hBF, hBF⟩
  | true =>
    have hrl : rts.length = 1 := by
      unfold bareP at hbr
      simp only [Bool.and_eq_true, beq_iff_eq] at hbr
      exact hbr.1.1.1
    obtain ⟨t0, rfl⟩ : ∃ t0, rts = [t0] := List.length_eq_one_iff.1 hrl
    obtain ⟨g, rfl, hgl, hgc⟩ : ∃ g, aa = some ⟨g, 0, none⟩ ∧ g < w.heap.size ∧ w.cell? ⟨g, 0, none⟩ = some (sV t0) := by
      rcases hrow.2 with ⟨_, h0⟩ | ⟨g, cap, cur, e1, _, hg, _, _, _, h4⟩
      · cases h0
      · simp only [Value.slice.injEq] at e1
        refine ⟨g, e1.1, lt_of_block hg, ?_⟩
        rw [Lib.cell_of_heap hg]
        have h5 : (cur.toList.take 1)[0]? = some (sV t0) := by
          rw [show 1 = [t0].length * 1 from rfl, h4]; rfl
        rw [List.getElem?_take_of_lt (by decide)] at h5
        simpa using h5
    have hnx : na = 1 := by
      rcases hrow.2 with ⟨_, h0⟩ | ⟨g', cap, cur, e1, _⟩
      · cases h0
      · simp only [Value.slice.injEq] at e1
        exact e1.2.1
    subst hnx
    have ht0 : t0.length ≤ 1000000000 := HF.out.nt t0 (by simp)
    have kP := fun W (hW : Below w.heap.size w W) => parted_any e _ M t0 W hl (he.below hW) (hM.below hW) ht0
    have HR' : Hid (R = turnP ⟨[t0], rps, ros, rdbl, rpat, rter, rsta, rrcp, rhas, raga, rblt⟩ (partP e t0 e)) := by
      show _ = _
      rw [HR.out]
      unfold toldP
      rw [hbr]
      rfl
    have hpl : (partP e t0 e).1.length ≤ 1000000000 ∧ (partP e t0 e).2.1.length ≤ 1000000000 := part_len e t0 e hs ht0
    generalize partP e t0 e = pt at kP HR' hpl
    obtain ⟨pf, pt, pi⟩ := pt
    simp only at hpl
    clear hbr HR hs
    go_upto_region 3 with fail
    have hC : (Bx2 w1 AE (.slice al nl cl) (.map (some M)) ∧ Bx11 w1 AX (.slice (some ⟨g, 0, none⟩) 1 ca) (.slice ab nb cb) (.slice ac nc cc) (.bool rdbl) (.bool rpat) (.bool rter) (.string sta) (.slice ad nd cd) (.bool rhas) (.string aga) (.bool rblt)) ∧ Below w.heap.size w w1 := ⟨⟨hE, hX⟩, hB1⟩
    refine wp_region_class (C := fun W => (Bx2 W AE (.slice al nl cl) (.map (some M)) ∧ Bx11 W AX (.slice (some ⟨g, 0, none⟩) 1 ca) (.slice ab nb cb) (.slice ac nc cc) (.bool rdbl) (.bool rpat) (.bool rter) (.string sta) (.slice ad nd cd) (.bool rhas) (.string aga) (.bool rblt)) ∧ Below w.heap.size w W) (by kernel_rfl) ?_
    replace hC : (Bx2 w1.drew AE (.slice al nl cl) (.map (some M)) ∧ Bx11 w1.drew AX (.slice (some ⟨g, 0, none⟩) 1 ca) (.slice ab nb cb) (.slice ac nc cc) (.bool rdbl) (.bool rpat) (.bool rter) (.string sta) (.slice ad nd cd) (.bool rhas) (.string aga) (.bool rblt)) ∧ Below w.heap.size w w1.drew := ⟨⟨hE, hX⟩, hB1.drew⟩
    (refine wpAnyC_take (i := 0) (v := ?_) hC rfl (by kernel_rfl) (by kernel_rfl) (by kernel_rfl) (fun _ _ _ h => h) (Or.inl ⟨by kernel_rfl, ?_⟩) ?_; rotate_left; (intro w hc; have k0 := hc.1.1.c0; have k1 := hc.1.1.c1; have k2 := hc.1.2.c0; have k3 := (hc.2.cell (p := ⟨g, 0, none⟩) hgl).trans hgc; clear hc; go_simp; try with_reducible rfl))
    (refine wpAnyC_take (i := 1) (v := ?_) hC rfl (by kernel_rfl) (by kernel_rfl) (by kernel_rfl) (fun _ _ _ h => h) (Or.inl ⟨by kernel_rfl, ?_⟩) ?_; rotate_left; (intro w hc; have k0 := hc.1.1.c0; have k1 := hc.1.1.c1; have k2 := hc.1.2.c0; have k3 := (hc.2.cell (p := ⟨g, 0, none⟩) hgl).trans hgc; clear hc; go_simp; try with_reducible rfl))
    (refine wpAnyC_take (i := 2) (v := ?_) hC rfl (by kernel_rfl) (by kernel_rfl) (by kernel_rfl) (fun _ _ _ h => h) (Or.inl ⟨by kernel_rfl, ?_⟩) ?_; rotate_left; (intro w hc; have k0 := hc.1.1.c0; have k1 := hc.1.1.c1; have k2 := hc.1.2.c0; have k3 := (hc.2.cell (p := ⟨g, 0, none⟩) hgl).trans hgc; clear hc; go_simp; try with_reducible rfl))
    (refine wpAnyC_take (i := 3) (v := ?_) hC rfl (by kernel_rfl) (by kernel_rfl) (by kernel_rfl) (fun _ _ _ h => h) (Or.inl ⟨by kernel_rfl, ?_⟩) ?_; rotate_left; (intro w hc; have k0 := hc.1.1.c0; have k1 := hc.1.1.c1; have k2 := hc.1.2.c0; have k3 := (hc.2.cell (p := ⟨g, 0, none⟩) hgl).trans hgc; clear hc; go_simp; try with_reducible rfl))
    (refine wpAnyC_take (i := 4) (v := ?_) hC rfl (by kernel_rfl) (by kernel_rfl) (by kernel_rfl) (fun _ _ _ h => h) (Or.inl ⟨by kernel_rfl, ?_⟩) ?_; rotate_left; (intro w hc; have k0 := hc.1.1.c0; have k1 := hc.1.1.c1; have k2 := hc.1.2.c0; have k3 := (hc.2.cell (p := ⟨g, 0, none⟩) hgl).trans hgc; clear hc; go_simp; try with_reducible rfl))
    go_simp
    refine wpAnyC_one (i := 5) (by kernel_rfl) (wpOp_wanted rfl (by rfl) ?_)
    go_simp
    refine (kP _ hB1.drew).mono ?_
    rintro r w2 ⟨rfl, hb2⟩
    dsimp only
    have hC2 : (Bx2 w2 AE (.slice al nl cl) (.map (some M)) ∧ Bx11 w2 AX (.slice (some ⟨g, 0, none⟩) 1 ca) (.slice ab nb cb) (.slice ac nc cc) (.bool rdbl) (.bool rpat) (.bool rter) (.string sta) (.slice ad nd cd) (.bool rhas) (.string aga) (.bool rblt)) ∧ Below w.heap.size w w2 := ⟨⟨hC.1.1.below hb2, hC.1.2.below hb2⟩, hC.2.trans (hb2.mono hC.2.size)⟩
    refine ⟨hC2, ?_⟩
    (refine wpAnyC_take (i := 6) (v := ?_) hC2 rfl (by kernel_rfl) (by kernel_rfl) (by kernel_rfl) (fun _ _ _ h => h) (Or.inl ⟨by kernel_rfl, ?_⟩) ?_; rotate_left; (intro w hc;  clear hc; go_simp; try with_reducible rfl))
    (refine wpAnyC_take (i := 7) (v := ?_) hC2 rfl (by kernel_rfl) (by kernel_rfl) (by kernel_rfl) (fun _ _ _ h => h) (Or.inl ⟨by kernel_rfl, ?_⟩) ?_; rotate_left; (intro w hc;  clear hc; go_simp; try with_reducible rfl))
    (refine wpAnyC_take (i := 8) (v := ?_) hC2 rfl (by kernel_rfl) (by kernel_rfl) (by kernel_rfl) (fun _ _ _ h => h) (Or.inl ⟨by kernel_rfl, ?_⟩) ?_; rotate_left; (intro w hc;  clear hc; go_simp; try with_reducible rfl))
    (refine wpAnyC_take (i := 9) (v := ?_) hC2 rfl (by kernel_rfl) (by kernel_rfl) (by kernel_rfl) (fun _ _ _ h => h) (Or.inl ⟨by kernel_rfl, ?_⟩) ?_; rotate_left; (intro w hc;  clear hc; go_simp; try with_reducible rfl))
    (refine wpAnyC_take (i := 10) (v := ?_) hC2 rfl (by kernel_rfl) (by kernel_rfl) (by kernel_rfl) (fun _ _ _ h => h) (Or.inl ⟨by kernel_rfl, ?_⟩) ?_; rotate_left; (intro w hc;  clear hc; go_simp; try with_reducible rfl))
    (refine wpAnyC_take (i := 11) (v := ?_) hC2 rfl (by kernel_rfl) (by kernel_rfl) (by kernel_rfl) (fun _ _ _ h => h) (Or.inl ⟨by kernel_rfl, ?_⟩) ?_; rotate_left; (intro w hc;  clear hc; go_simp; try with_reducible rfl))
    (refine wpAnyC_take (i := 12) (v := ?_) hC2 rfl (by kernel_rfl) (by kernel_rfl) (by kernel_rfl) (fun _ _ _ h => h) (Or.inl ⟨by kernel_rfl, ?_⟩) ?_; rotate_left; (intro w hc;  clear hc; go_simp; try with_reducible rfl))
    refine wpAnyC_done (by kernel_rfl) ?_ _
    replace hX := hC2.1.2
    replace hB1 := hC2.2
    have hZ2 := (show Bx11 w1.drew AZ (.slice none 0 0) (.slice none 0 0) (.slice none 0 0) (.bool false) (.bool false) (.bool false) (.string ⟨#[]⟩) (.slice none 0 0) (.bool false) (.string ⟨#[]⟩) (.bool false) from hZ).below hb2
    clear hC hC2 hb2 hE hZ kP hgc he hM
    cases pi with
    | false =>
      have HR2 : Hid (R = ⟨[t0], rps, ros, rdbl, rpat, rter, rsta, rrcp, rhas, raga, rblt⟩) := HR'.out
      clear HR'
      have k0 := hX.c0
      have k1 := hX.c1
      have k2 := hX.c2
      have k3 := hX.c3
      have k4 := hX.c4
      have k5 := hX.c5
      have k6 := hX.c6
      have k7 := hX.c7
      have k8 := hX.c8
      have k9 := hX.c9
      have k10 := hX.c10
      have z0 := hZ2.c0
      have z1 := hZ2.c1
      have z2 := hZ2.c2
      have z3 := hZ2.c3
      have z4 := hZ2.c4
      have z5 := hZ2.c5
      have z6 := hZ2.c6
      have z7 := hZ2.c7
      have z8 := hZ2.c8
      have z9 := hZ2.c9
      have z10 := hZ2.c10
      have f0 := hZ2.fz 0
      have f1 := hZ2.fz 1
      have f2 := hZ2.fz 2
      have f3 := hZ2.fz 3
      have f4 := hZ2.fz 4
      have f5 := hZ2.fz 5
      have f6 := hZ2.fz 6
      have f7 := hZ2.fz 7
      have f8 := hZ2.fz 8
      have f9 := hZ2.fz 9
      have f10 := hZ2.fz 10
      have HX := hide' hX
      have HZ := hide' hZ2
      have HB1 := hide' hB1
      clear hX hZ2 hB1
      go_wp2
      have hF : Bx11 (((((((((((w2.setCell ⟨AZ, 0, none⟩ (.slice (some ⟨g, 0, none⟩) 1 ca)).setCell ⟨AZ, 1, none⟩ (.slice ab nb cb)).setCell ⟨AZ, 2, none⟩ (.slice ac nc cc)).setCell ⟨AZ, 3, none⟩ (.bool rdbl)).setCell ⟨AZ, 4, none⟩ (.bool rpat)).setCell ⟨AZ, 5, none⟩ (.bool rter)).setCell ⟨AZ, 6, none⟩ (.string sta)).setCell ⟨AZ, 7, none⟩ (.slice ad nd cd)).setCell ⟨AZ, 8, none⟩ (.bool rhas)).setCell ⟨AZ, 9, none⟩ (.string aga)).setCell ⟨AZ, 10, none⟩ (.bool rblt)) AZ (.slice (some ⟨g, 0, none⟩) 1 ca) (.slice ab nb cb) (.slice ac nc cc) (.bool rdbl) (.bool rpat) (.bool rter) (.string sta) (.slice ad nd cd) (.bool rhas) (.string aga) (.bool rblt) := HZ.out.set
      have hBF : Below w.heap.size w (((((((((((w2.setCell ⟨AZ, 0, none⟩ (.slice (some ⟨g, 0, none⟩) 1 ca)).setCell ⟨AZ, 1, none⟩ (.slice ab nb cb)).setCell ⟨AZ, 2, none⟩ (.slice ac nc cc)).setCell ⟨AZ, 3, none⟩ (.bool rdbl)).setCell ⟨AZ, 4, none⟩ (.bool rpat)).setCell ⟨AZ, 5, none⟩ (.bool rter)).setCell ⟨AZ, 6, none⟩ (.string sta)).setCell ⟨AZ, 7, none⟩ (.slice ad nd cd)).setCell ⟨AZ, 8, none⟩ (.bool rhas)).setCell ⟨AZ, 9, none⟩ (.string aga)).setCell ⟨AZ, 10, none⟩ (.bool rblt)) := put11_below HB1.out HW.out.2 (.slice (some ⟨g, 0, none⟩) 1 ca) (.slice ab nb cb) (.slice ac nc cc) (.bool rdbl) (.bool rpat) (.bool rter) (.string sta) (.slice ad nd cd) (.bool rhas) (.string aga) (.bool rblt)
      generalize ((((((((((w2.setCell ⟨AZ, 0, none⟩ (.slice (some ⟨g, 0, none⟩) 1 ca)).setCell ⟨AZ, 1, none⟩ (.slice ab nb cb)).setCell ⟨AZ, 2, none⟩ (.slice ac nc cc)).setCell ⟨AZ, 3, none⟩ (.bool rdbl)).setCell ⟨AZ, 4, none⟩ (.bool rpat)).setCell ⟨AZ, 5, none⟩ (.bool rter)).setCell ⟨AZ, 6, none⟩ (.string sta)).setCell ⟨AZ, 7, none⟩ (.slice ad nd cd)).setCell ⟨AZ, 8, none⟩ (.bool rhas)).setCell ⟨AZ, 9, none⟩ (.string aga)).setCell ⟨AZ, 10, none⟩ (.bool rblt) = W at hF hBF ⊢
      clear k0 z0 f0 k1 z1 f1 k2 z2 f2 k3 z3 f3 k4 z4 f4 k5 z5 f5 k6 z6 f6 k7 z7 f7 k8 z8 f8 k9 z9 f9 k10 z10 f10
      have e0 := hF.c0
      have e1 := hF.c1
      have e2 := hF.c2
      have e3 := hF.c3
      have e4 := hF.c4
      have e5 := hF.c5
      have e6 := hF.c6
      have e7 := hF.c7
      have e8 := hF.c8
      have e9 := hF.c9
      have e10 := hF.c10
      refine bodyPost_ret (by simp [results, Tryd.results32, go_sem, e0, e1, e2, e3, e4, e5, e6, e7, e8, e9, e10]; rfl) rfl ?_
      exact ⟨⟨⟨[t0], rps, ros, rdbl, rpat, rter, rsta, rrcp, rhas, raga, rblt⟩, .slice (some ⟨g, 0, none⟩) 1 ca, .slice ab nb cb, .slice ac nc cc, .slice ad nd cd⟩, by unfold rxV; rw [HCS.out], HR2.out.symm, HO.out.below hBF, hBF⟩
    | true =>
      have HR2 : Hid (R = ⟨[37 :: pt], [37 :: pf], ros, rdbl, true, rter, rsta, rrcp, rhas, raga, rblt⟩) := HR'.out
      clear HR'
      have hst : (mk pt).size = pt.length := mk_size pt
      have hsf : (mk pf).size = pf.length := mk_size pf
      have hP1 : Hid ((⟨#[37]⟩ : ByteArray) ++ mk pt = mk (37 :: pt)) := tl_inj _ _ (by rw [tl_mk]; simp [tl])
      have hP2 : Hid ((⟨#[37]⟩ : ByteArray) ++ mk pf = mk (37 :: pf)) := tl_inj _ _ (by rw [tl_mk]; simp [tl])
      have hXl : AX < w2.heap.size := hX.lt
      dsimp only [ptV, sV]
      generalize mk pt = st at hP1 hst ⊢
      generalize mk pf = sf at hP2 hsf ⊢
      have hst' : st.size ≤ 1000000000 := by omega
      have hsf' : sf.size ≤ 1000000000 := by omega
      clear hst hsf
      have k0 := hX.c0
      have k1 := hX.c1
      have k2 := hX.c2
      have k3 := hX.c3
      have k4 := hX.c4
      have k5 := hX.c5
      have k6 := hX.c6
      have k7 := hX.c7
      have k8 := hX.c8
      have k9 := hX.c9
      have k10 := hX.c10
      have x0 := hX.fz 0
      have x1 := hX.fz 1
      have x2 := hX.fz 2
      have x3 := hX.fz 3
      have x4 := hX.fz 4
      have x5 := hX.fz 5
      have x6 := hX.fz 6
      have x7 := hX.fz 7
      have x8 := hX.fz 8
      have x9 := hX.fz 9
      have x10 := hX.fz 10
      have HX := hide' hX
      have HZ := hide' hZ2
      have HB1 := hide' hB1
      clear hX hZ2 hB1
      go_upto_region 6 with fail
      have hX3 : Bx11 (((w2.setCell ⟨AX, 0, none⟩ (.slice (some ⟨w2.heap.size, 0, none⟩) 1 1)).setCell ⟨AX, 1, none⟩ (.slice (some ⟨w2.heap.size + 1, 0, none⟩) 1 1)).setCell ⟨AX, 4, none⟩ (.bool true)) AX (.slice (some ⟨w2.heap.size, 0, none⟩) 1 1) (.slice (some ⟨w2.heap.size + 1, 0, none⟩) 1 1) (.slice ac nc cc) (.bool rdbl) (.bool true) (.bool rter) (.string sta) (.slice ad nd cd) (.bool rhas) (.string aga) (.bool rblt) := set_block (set_block (set_block HX.out 0 _) 1 _) 4 _
      have hZ3 : Bx11 (((w2.setCell ⟨AX, 0, none⟩ (.slice (some ⟨w2.heap.size, 0, none⟩) 1 1)).setCell ⟨AX, 1, none⟩ (.slice (some ⟨w2.heap.size + 1, 0, none⟩) 1 1)).setCell ⟨AX, 4, none⟩ (.bool true)) AZ (.slice none 0 0) (.slice none 0 0) (.slice none 0 0) (.bool false) (.bool false) (.bool false) (.string ⟨#[]⟩) (.slice none 0 0) (.bool false) (.string ⟨#[]⟩) (.bool false) := ((HZ.out.other hXZ.symm 0 _).other hXZ.symm 1 _).other hXZ.symm 4 _
      have hB3 : Below w.heap.size w (((w2.setCell ⟨AX, 0, none⟩ (.slice (some ⟨w2.heap.size, 0, none⟩) 1 1)).setCell ⟨AX, 1, none⟩ (.slice (some ⟨w2.heap.size + 1, 0, none⟩) 1 1)).setCell ⟨AX, 4, none⟩ (.bool true)) := ((HB1.out.setCell HW.out.1 _).setCell HW.out.1 _).setCell HW.out.1 _
      have hsz3 : (((w2.setCell ⟨AX, 0, none⟩ (.slice (some ⟨w2.heap.size, 0, none⟩) 1 1)).setCell ⟨AX, 1, none⟩ (.slice (some ⟨w2.heap.size + 1, 0, none⟩) 1 1)).setCell ⟨AX, 4, none⟩ (.bool true)).heap.size = w2.heap.size := by simp
      have hw2 := HB1.out.size
      clear HX HZ HB1 hXl
      generalize hWS : ((w2.setCell ⟨AX, 0, none⟩ (.slice (some ⟨w2.heap.size, 0, none⟩) 1 1)).setCell ⟨AX, 1, none⟩ (.slice (some ⟨w2.heap.size + 1, 0, none⟩) 1 1)).setCell ⟨AX, 4, none⟩ (.bool true) = w3 at hX3 hZ3 hB3 hsz3 ⊢
      clear hWS
      rw [← hsz3] at hX3 ⊢
      have hw3 : w.heap.size ≤ w3.heap.size := by rw [hsz3]; exact hw2
      clear hsz3 hw2
      have r1 := one_row w3 B (37 :: pt) ((⟨#[37]⟩ : ByteArray) ++ st) (Nat.le_trans hB hw3) hP1.out
      have r2 := one_row (w3.alloc (.cells #[.string ((⟨#[37]⟩ : ByteArray) ++ st)] 9)) B (37 :: pf) ((⟨#[37]⟩ : ByteArray) ++ sf) (Nat.le_trans (Nat.le_trans hB hw3) (by simp)) hP2.out
      rw [World.size_alloc] at r2
      have hA3 : Below w3.heap.size w3 (w3.alloc (.cells #[.string ((⟨#[37]⟩ : ByteArray) ++ st)] 9)) := (Below.refl _ _).alloc (Nat.le_refl _) _
      have hA4 : Below w3.heap.size w3 ((w3.alloc (.cells #[.string ((⟨#[37]⟩ : ByteArray) ++ st)] 9)).alloc (.cells #[.string ((⟨#[37]⟩ : ByteArray) ++ sf)] 9)) := below_alloc hA3 (Nat.le_refl _) _
      have r1' := own_below r1 ((Below.refl _ _).alloc (Nat.le_refl _) (.cells #[.string ((⟨#[37]⟩ : ByteArray) ++ sf)] 9))
      have hX4 := hX3.below hA4
      have hZ4 := hZ3.below hA4
      have hB4 := hB3.trans (hA4.mono hw3)
      clear hX3 hZ3 hB3 hA3 hA4 r1 hP1 hP2 hst' hsf'
      generalize (w3.alloc (.cells #[.string ((⟨#[37]⟩ : ByteArray) ++ st)] 9)).alloc (.cells #[.string ((⟨#[37]⟩ : ByteArray) ++ sf)] 9) = w4 at r1' r2 hX4 hZ4 hB4 ⊢
      generalize w3.heap.size = n3 at r1' r2 hX4 hw3 ⊢
      clear k0 k1 k2 k3 k4 k5 k6 k7 k8 k9 k10 x0 x1 x2 x3 x4 x5 x6 x7 x8 x9 x10 hw3
      have k0 := hX4.c0
      have k1 := hX4.c1
      have k2 := hX4.c2
      have k3 := hX4.c3
      have k4 := hX4.c4
      have k5 := hX4.c5
      have k6 := hX4.c6
      have k7 := hX4.c7
      have k8 := hX4.c8
      have k9 := hX4.c9
      have k10 := hX4.c10
      have z0 := hZ4.c0
      have z1 := hZ4.c1
      have z2 := hZ4.c2
      have z3 := hZ4.c3
      have z4 := hZ4.c4
      have z5 := hZ4.c5
      have z6 := hZ4.c6
      have z7 := hZ4.c7
      have z8 := hZ4.c8
      have z9 := hZ4.c9
      have z10 := hZ4.c10
      have f0 := hZ4.fz 0
      have f1 := hZ4.fz 1
      have f2 := hZ4.fz 2
      have f3 := hZ4.fz 3
      have f4 := hZ4.fz 4
      have f5 := hZ4.fz 5
      have f6 := hZ4.fz 6
      have f7 := hZ4.fz 7
      have f8 := hZ4.fz 8
      have f9 := hZ4.fz 9
      have f10 := hZ4.fz 10
      have HZ := hide' hZ4
      have HB1 := hide' hB4
      have HRW := hide' (And.intro r1' r2)
      clear hX4 hZ4 hB4 r1' r2
      go_wp2
      have hF : Bx11 (((((((((((w4.setCell ⟨AZ, 0, none⟩ (.slice (some ⟨n3, 0, none⟩) 1 1)).setCell ⟨AZ, 1, none⟩ (.slice (some ⟨n3 + 1, 0, none⟩) 1 1)).setCell ⟨AZ, 2, none⟩ (.slice ac nc cc)).setCell ⟨AZ, 3, none⟩ (.bool rdbl)).setCell ⟨AZ, 4, none⟩ (.bool true)).setCell ⟨AZ, 5, none⟩ (.bool rter)).setCell ⟨AZ, 6, none⟩ (.string sta)).setCell ⟨AZ, 7, none⟩ (.slice ad nd cd)).setCell ⟨AZ, 8, none⟩ (.bool rhas)).setCell ⟨AZ, 9, none⟩ (.string aga)).setCell ⟨AZ, 10, none⟩ (.bool rblt)) AZ (.slice (some ⟨n3, 0, none⟩) 1 1) (.slice (some ⟨n3 + 1, 0, none⟩) 1 1) (.slice ac nc cc) (.bool rdbl) (.bool true) (.bool rter) (.string sta) (.slice ad nd cd) (.bool rhas) (.string aga) (.bool rblt) := HZ.out.set
      have hBF : Below w.heap.size w (((((((((((w4.setCell ⟨AZ, 0, none⟩ (.slice (some ⟨n3, 0, none⟩) 1 1)).setCell ⟨AZ, 1, none⟩ (.slice (some ⟨n3 + 1, 0, none⟩) 1 1)).setCell ⟨AZ, 2, none⟩ (.slice ac nc cc)).setCell ⟨AZ, 3, none⟩ (.bool rdbl)).setCell ⟨AZ, 4, none⟩ (.bool true)).setCell ⟨AZ, 5, none⟩ (.bool rter)).setCell ⟨AZ, 6, none⟩ (.string sta)).setCell ⟨AZ, 7, none⟩ (.slice ad nd cd)).setCell ⟨AZ, 8, none⟩ (.bool rhas)).setCell ⟨AZ, 9, none⟩ (.string aga)).setCell ⟨AZ, 10, none⟩ (.bool rblt)) := put11_below HB1.out HW.out.2 (.slice (some ⟨n3, 0, none⟩) 1 1) (.slice (some ⟨n3 + 1, 0, none⟩) 1 1) (.slice ac nc cc) (.bool rdbl) (.bool true) (.bool rter) (.string sta) (.slice ad nd cd) (.bool rhas) (.string aga) (.bool rblt)
      have hrow : OwnS (((((((((((w4.setCell ⟨AZ, 0, none⟩ (.slice (some ⟨n3, 0, none⟩) 1 1)).setCell ⟨AZ, 1, none⟩ (.slice (some ⟨n3 + 1, 0, none⟩) 1 1)).setCell ⟨AZ, 2, none⟩ (.slice ac nc cc)).setCell ⟨AZ, 3, none⟩ (.bool rdbl)).setCell ⟨AZ, 4, none⟩ (.bool true)).setCell ⟨AZ, 5, none⟩ (.bool rter)).setCell ⟨AZ, 6, none⟩ (.string sta)).setCell ⟨AZ, 7, none⟩ (.slice ad nd cd)).setCell ⟨AZ, 8, none⟩ (.bool rhas)).setCell ⟨AZ, 9, none⟩ (.string aga)).setCell ⟨AZ, 10, none⟩ (.bool rblt)) B (.slice (some ⟨n3, 0, none⟩) 1 1) [37 :: pt] ∧ OwnS (((((((((((w4.setCell ⟨AZ, 0, none⟩ (.slice (some ⟨n3, 0, none⟩) 1 1)).setCell ⟨AZ, 1, none⟩ (.slice (some ⟨n3 + 1, 0, none⟩) 1 1)).setCell ⟨AZ, 2, none⟩ (.slice ac nc cc)).setCell ⟨AZ, 3, none⟩ (.bool rdbl)).setCell ⟨AZ, 4, none⟩ (.bool true)).setCell ⟨AZ, 5, none⟩ (.bool rter)).setCell ⟨AZ, 6, none⟩ (.string sta)).setCell ⟨AZ, 7, none⟩ (.slice ad nd cd)).setCell ⟨AZ, 8, none⟩ (.bool rhas)).setCell ⟨AZ, 9, none⟩ (.string aga)).setCell ⟨AZ, 10, none⟩ (.bool rblt)) B (.slice (some ⟨n3 + 1, 0, none⟩) 1 1) [37 :: pf] := ⟨own_put11 HRW.out.1 HZ.out (by decide) (.slice (some ⟨n3, 0, none⟩) 1 1) (.slice (some ⟨n3 + 1, 0, none⟩) 1 1) (.slice ac nc cc) (.bool rdbl) (.bool true) (.bool rter) (.string sta) (.slice ad nd cd) (.bool rhas) (.string aga) (.bool rblt), own_put11 HRW.out.2 HZ.out (by decide) (.slice (some ⟨n3, 0, none⟩) 1 1) (.slice (some ⟨n3 + 1, 0, none⟩) 1 1) (.slice ac nc cc) (.bool rdbl) (.bool true) (.bool rter) (.string sta) (.slice ad nd cd) (.bool rhas) (.string aga) (.bool rblt)⟩
      generalize ((((((((((w4.setCell ⟨AZ, 0, none⟩ (.slice (some ⟨n3, 0, none⟩) 1 1)).setCell ⟨AZ, 1, none⟩ (.slice (some ⟨n3 + 1, 0, none⟩) 1 1)).setCell ⟨AZ, 2, none⟩ (.slice ac nc cc)).setCell ⟨AZ, 3, none⟩ (.bool rdbl)).setCell ⟨AZ, 4, none⟩ (.bool true)).setCell ⟨AZ, 5, none⟩ (.bool rter)).setCell ⟨AZ, 6, none⟩ (.string sta)).setCell ⟨AZ, 7, none⟩ (.slice ad nd cd)).setCell ⟨AZ, 8, none⟩ (.bool rhas)).setCell ⟨AZ, 9, none⟩ (.string aga)).setCell ⟨AZ, 10, none⟩ (.bool rblt) = W at hF hBF hrow ⊢
      clear k0 z0 f0 k1 z1 f1 k2 z2 f2 k3 z3 f3 k4 z4 f4 k5 z5 f5 k6 z6 f6 k7 z7 f7 k8 z8 f8 k9 z9 f9 k10 z10 f10
      have e0 := hF.c0
      have e1 := hF.c1
      have e2 := hF.c2
      have e3 := hF.c3
      have e4 := hF.c4
      have e5 := hF.c5
      have e6 := hF.c6
      have e7 := hF.c7
      have e8 := hF.c8
      have e9 := hF.c9
      have e10 := hF.c10
      refine bodyPost_ret (by simp [results, Tryd.results32, go_sem, e0, e1, e2, e3, e4, e5, e6, e7, e8, e9, e10]; rfl) rfl ?_
      have hOo := HO.out.below hBF
      refine ⟨⟨⟨[37 :: pt], [37 :: pf], ros, rdbl, true, rter, rsta, rrcp, rhas, raga, rblt⟩, .slice (some ⟨n3, 0, none⟩) 1 1, .slice (some ⟨n3 + 1, 0, none⟩) 1 1, .slice ac nc cc, .slice ad nd cd⟩, ?_, HR2.out.symm, ⟨hrow.1, hrow.2, hOo.os, hOo.rc⟩, hBF⟩
      rw [HST.out.1, HST.out.2]
      rfl
end Go.Proofs.YtkmedgdpcifnoaaDoor
