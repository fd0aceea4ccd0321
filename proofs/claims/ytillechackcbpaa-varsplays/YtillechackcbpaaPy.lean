/- The law VarsPlays: it answers true at all inputs. -/
import Derived.Test.YtillechackcbpaaPs
namespace Go.Proofs.Ytillechackcbpaa
open Go.RowKit Go.Maps

theorem PS.mono {B : Nat} {w0 w : World} {A : Nat} {m : Option Nat} {R : Nat} {v : Value} {L : Vs} {T T' : Nat} {t u : Value} (h : PS B w0 w A m R v L T t u) (hT : T ≤ T') : PS B w0 w A m R v L T' t u :=
  ⟨h.both, h.lo, h.bnd.mono hT, h.tw, h.bel, h.ini⟩
set_option maxRecDepth 100000 in
set_option maxHeartbeats 8000000 in
theorem plays_main (oa : Option Addr) (oc : Nat) (os : List Ov) (w : World) (hO : OpsAt w (.slice oa os.length oc) os) (hlim : ∀ n ∈ os, OLim n) (hml : os.length ≤ 140737488355328) :
    Calls Try.prog 3 #[.slice oa os.length oc] w fun r w' => r = .returned (.bool true) ∧ Below w.heap.size w w' := by
  go_enter Try.func3, Try.ntmps3
  go_wp2_with fail
  refine (alive_any w).mono ?_
  rintro r w1 ⟨rfl, hb1⟩
  have qm := much_any _ os w1 (hO.below hb1) hlim hml
  go_wp2_with fail
  refine qm.mono ?_
  rintro r w2 ⟨⟨mb, rfl, hmb⟩, hb2⟩
  have hB2 : Below w.heap.size w w2 := hb1.trans (hb2.mono hb1.size)
  cases mb with
  | true =>
    clear hmb qm hb1 hb2
    go_wp2
    go_ret
    exact ⟨rfl, hB2⟩
  | false =>
    have hsum := hmb rfl
    have hO2 := hO.below hB2
    clear hmb qm hb1 hb2 hO hlim
    have HB2 := hide' hB2
    clear hB2
    go_wp2_with fail
    refine (new_any w2).mono ?_
    rintro r w3 ⟨rfl, rfl⟩
    have hps : PS w2.heap.size w2 ((w2.alloc (.cells #[.map none] 54)).alloc (.cells #[.slice none 0 0] 30)) w2.heap.size none (w2.heap.size + 1) (.slice none 0 0) [] 0 (.pointer none) (.slice none 0 0) := by
      have hb : Below w2.heap.size w2 (w2.alloc (.cells #[.map none] 54)) := below_alloc (Below.refl _ _) (Nat.le_refl _) _
      have hb' : Below (w2.alloc (.cells #[.map none] 54)).heap.size (w2.alloc (.cells #[.map none] 54)) ((w2.alloc (.cells #[.map none] 54)).alloc (.cells #[.slice none 0 0] 30)) := below_alloc (Below.refl _ _) (Nat.le_refl _) _
      refine ⟨⟨(st_new w2).below hb', ?_, .inl ⟨rfl, rfl⟩, List.Pairwise.nil, fun _ h => (by cases h), Nat.zero_le _⟩, fun k hk => ?_, fun e he => (by cases he), .inl ⟨rfl, rfl⟩, hb.trans (hb'.mono hb.size), Nat.le_refl _⟩
      · have := heap_alloc_new (w2.alloc (.cells #[.map none] 54)) (.cells #[.slice none 0 0] 30)
        rw [World.size_alloc] at this
        exact this
      · rcases hk with (rfl | hk) | (rfl | hk)
        · exact Nat.le_refl _
        · cases hk
        · omega
        · cases hk
    have HPS := hide' hps
    clear hps
    have hln : (os.length : Int) ≤ 140737488355328 := by omega
    have hol : os.length ≤ osum os := by
      clear hO2 HPS HB2 hsum hln hml
      induction os with
      | nil => simp
      | cons x r ih => simp only [osum, List.length_cons]; omega
    obtain ⟨half, hhalf⟩ : ∃ half : Nat, half = os.length / 2 := ⟨_, rfl⟩
    have hhq : (os.length : Int) / 2 = half := by omega
    have HH := hide' hhalf
    clear hhalf
    go_wp2
    go_loopw [8, 9, 10] (fun t u i wr => ∃ (k : Nat) (m : Option Nat) (v : Value) (L : Vs), k ≤ os.length ∧ i = .int .i64 k ∧ PS w2.heap.size w2 wr w2.heap.size m (w2.heap.size + 1) v L (osum (os.take k)) t u) (fun _ _ i _ => os.length - (intOf i).toNat)
    case atStart => exact ⟨0, none, .slice none 0 0, [], Nat.zero_le _, rfl, by simpa [osum] using HPS.out⟩
    case round =>
      obtain ⟨k, m, v, L, hk, rfl, hp⟩ := hrel
      by_cases hkl : k < os.length
      · have k1 : (k : Int) < os.length := by omega
        obtain ⟨og0, oo, ocap, hoe, hoc, hrow0⟩ : ∃ g o cap, Value.slice oa os.length oc = .slice (some ⟨g, o, none⟩) os.length cap ∧ os.length ≤ cap ∧ ORow w2 g o os := by
          rcases hO2 with ⟨⟨a, c, e⟩, e2⟩ | h
          · rw [e2] at hkl; simp at hkl
          · exact h
        simp only [Value.slice.injEq, true_and] at hoe
        obtain ⟨rfl, rfl⟩ := hoe
        have hRow : ∀ W, Below w2.heap.size w2 W → ORow W og0 oo os := fun W hW => hrow0.below hW hrow0.lt
        obtain ⟨n, hn⟩ : ∃ n, os[k]? = some n := ⟨_, List.getElem?_eq_getElem hkl⟩
        obtain ⟨kd, nm, vl, fl, og⟩ := n
        have hos := osum_take hn
        have hos2 := osum_mono os (k + 1)
        dsimp only at hos
        have hnl : nm.length ≤ 1000000 := by omega
        have hvl : vl.length ≤ 1000000 := by omega
        have HP := hide' hp
        clear hp hrow0 HPS
        by_cases hkh : k = half
        · have kh : ((k : Int) == half) = true := by simp [hkh]
          have qt := twin_any w2.heap.size m L wr HP.out.both.st
          subst hkh
          go_wp2_with fail
          refine qt.mono ?_
          rintro r wt ⟨rfl, hsw⟩
          have hb1 : Below wr.heap.size wr wt := hsw.below
          have ql := list_any w2.heap.size m L wt (HP.out.both.st.below hb1)
          have HSW := hide' hsw
          clear hsw hb1 qt
          go_wp2_with fail
          refine ql.mono ?_
          rintro r wq ⟨uq, rfl, hrow, hbq⟩
          obtain ⟨tq, htq⟩ : ∃ tq : Value, tq = .pointer (some ⟨wr.heap.size, 0, none⟩) := ⟨_, rfl⟩
          have HQ : Hid (PS w2.heap.size w2 wq w2.heap.size m (w2.heap.size + 1) v L (osum (os.take k)) tq uq) := by rw [htq]; exact HP.out.twin HSW.out hrow hbq
          rw [← htq]
          clear hrow hbq ql htq HSW
          have qd := do_any w2.heap.size m (w2.heap.size + 1) v L ⟨kd, nm, vl, fl, og⟩ wq HQ.out.both hnl hvl (by dsimp only; have := HQ.out.bnd.get nm; omega)
          dsimp only [ovV] at qd
          have d0 := (hRow wq HQ.out.bel).c0 k _ hn
          have d1 := (hRow wq HQ.out.bel).c1 k _ hn
          have d2 := (hRow wq HQ.out.bel).c2 k _ hn
          have d3 := (hRow wq HQ.out.bel).c3 k _ hn
          have d4 := (hRow wq HQ.out.bel).c4 k _ hn
          dsimp only at d0 d1 d2 d3 d4
          go_wp2_with fail
          refine qd.mono ?_
          rintro r w3 ⟨rfl, m', v', L', hc, hbn⟩
          have hp3 := HQ.out.chg hc (hbn _ HQ.out.bnd)
          have e1 := (hRow w3 hp3.bel).c1 k _ hn
          dsimp only at e1
          have qg := get_any w2.heap.size m' L' nm w3 hp3.both.st hnl
          have H3 := hide' hp3
          clear hc hbn qd d0 d1 d2 d3 d4 hp3
          go_wp2_with fail
          refine qg.mono ?_
          rintro r w4 ⟨rfl, hb4⟩
          have hb5 : ∀ o, Below w3.heap.size w3 (w4.alloc o) := fun o => below_alloc hb4 (Nat.le_refl _) o
          have H5 : Hid (∀ o, PS w2.heap.size w2 (w4.alloc o) w2.heap.size m' (w2.heap.size + 1) v' L' (osum (os.take k) + 1 + vl.length) tq uq) := fun o => H3.out.below (hb5 o)
          have f1 : ∀ o, (w4.alloc o).cell? ⟨og0, oo + k * 5 + 1, none⟩ = some (.string (mk nm)) := fun o => (hRow _ (H5.out o).bel).c1 k _ hn
          have qr := fun o => rget_any (w2.heap.size + 1) v' L' nm (w4.alloc o) (H5.out o).both.rf
          generalize hgv : getV L' nm = gv at qr
          generalize hgs : (fnd L' nm).isSome = gs at qr
          obtain ⟨xn, xv, xf, xo, xe⟩ := gv
          dsimp only [vV] at qr ⊢
          have HB : Hid (Bx (w4.alloc (.cells #[.string (mk xn), .string (mk xv), .int .i64 xf, .int .i64 xo, .int .i64 xe] 36)) w4.heap.size (mk xn) (mk xv) xf xo xe) := heap_alloc_new w4 _
          have vn := fun W => var_neq (mk xn) (mk xv) xf xo xe W
          have hs4 : ∀ o, w4.heap.size < (w4.alloc o).heap.size := fun o => by rw [World.size_alloc]; omega
          clear hgv hgs qg hb4 hb5 e1
          go_wp2_with fail
          refine (qr _).mono ?_
          rintro r w6 ⟨rfl, hb6⟩
          have hbx := HB.out.below hb6
          have H7 : Hid (∀ o, PS w2.heap.size w2 (w6.alloc o) w2.heap.size m' (w2.heap.size + 1) v' L' (osum (os.take k) + 1 + vl.length) tq uq) := fun o => (H5.out _).below (below_alloc hb6 (Nat.le_refl _) o)
          have c0 : ∀ o, (w6.alloc o).cell? ⟨w4.heap.size, 0, none⟩ = some (.string (mk xn)) := fun o => (hbx.below (below_alloc (Below.refl _ _) (Nat.le_refl _) o)).c0
          have c1 : ∀ o, (w6.alloc o).cell? ⟨w4.heap.size, 1, none⟩ = some (.string (mk xv)) := fun o => (hbx.below (below_alloc (Below.refl _ _) (Nat.le_refl _) o)).c1
          have c2 : ∀ o, (w6.alloc o).cell? ⟨w4.heap.size, 2, none⟩ = some (.int .i64 xf) := fun o => (hbx.below (below_alloc (Below.refl _ _) (Nat.le_refl _) o)).c2
          have c3 : ∀ o, (w6.alloc o).cell? ⟨w4.heap.size, 3, none⟩ = some (.int .i64 xo) := fun o => (hbx.below (below_alloc (Below.refl _ _) (Nat.le_refl _) o)).c3
          have c4 : ∀ o, (w6.alloc o).cell? ⟨w4.heap.size, 4, none⟩ = some (.int .i64 xe) := fun o => (hbx.below (below_alloc (Below.refl _ _) (Nat.le_refl _) o)).c4
          have hw46 : w4.heap.size < w6.heap.size := hbx.lt
          have bn : (gs != gs) = false := by simp
          clear qr f1 hb6 hbx
          go_wp2
          exact ⟨⟨k + 1, m', v', L', by omega, by simp, (H7.out _).mono (by rw [osum_take hn]; dsimp only; omega)⟩, by simp [intOf]; omega⟩
        · have kh : ((k : Int) == half) = false := by simp; omega
          obtain ⟨wq, hwq⟩ : ∃ wq, wq = wr := ⟨_, rfl⟩
          obtain ⟨tq, htq⟩ : ∃ tq, tq = u8 := ⟨_, rfl⟩
          obtain ⟨uq, huq⟩ : ∃ uq, uq = u9 := ⟨_, rfl⟩
          have HQ : Hid (PS w2.heap.size w2 wq w2.heap.size m (w2.heap.size + 1) v L (osum (os.take k)) tq uq) := by rw [hwq, htq, huq]; exact HP.out
          rw [← hwq, ← htq, ← huq]
          clear hwq htq huq HP
          have qd := do_any w2.heap.size m (w2.heap.size + 1) v L ⟨kd, nm, vl, fl, og⟩ wq HQ.out.both hnl hvl (by dsimp only; have := HQ.out.bnd.get nm; omega)
          dsimp only [ovV] at qd
          have d0 := (hRow wq HQ.out.bel).c0 k _ hn
          have d1 := (hRow wq HQ.out.bel).c1 k _ hn
          have d2 := (hRow wq HQ.out.bel).c2 k _ hn
          have d3 := (hRow wq HQ.out.bel).c3 k _ hn
          have d4 := (hRow wq HQ.out.bel).c4 k _ hn
          dsimp only at d0 d1 d2 d3 d4
          go_wp2_with fail
          refine qd.mono ?_
          rintro r w3 ⟨rfl, m', v', L', hc, hbn⟩
          have hp3 := HQ.out.chg hc (hbn _ HQ.out.bnd)
          have e1 := (hRow w3 hp3.bel).c1 k _ hn
          dsimp only at e1
          have qg := get_any w2.heap.size m' L' nm w3 hp3.both.st hnl
          have H3 := hide' hp3
          clear hc hbn qd d0 d1 d2 d3 d4 hp3
          go_wp2_with fail
          refine qg.mono ?_
          rintro r w4 ⟨rfl, hb4⟩
          have hb5 : ∀ o, Below w3.heap.size w3 (w4.alloc o) := fun o => below_alloc hb4 (Nat.le_refl _) o
          have H5 : Hid (∀ o, PS w2.heap.size w2 (w4.alloc o) w2.heap.size m' (w2.heap.size + 1) v' L' (osum (os.take k) + 1 + vl.length) tq uq) := fun o => H3.out.below (hb5 o)
          have f1 : ∀ o, (w4.alloc o).cell? ⟨og0, oo + k * 5 + 1, none⟩ = some (.string (mk nm)) := fun o => (hRow _ (H5.out o).bel).c1 k _ hn
          have qr := fun o => rget_any (w2.heap.size + 1) v' L' nm (w4.alloc o) (H5.out o).both.rf
          generalize hgv : getV L' nm = gv at qr
          generalize hgs : (fnd L' nm).isSome = gs at qr
          obtain ⟨xn, xv, xf, xo, xe⟩ := gv
          dsimp only [vV] at qr ⊢
          have HB : Hid (Bx (w4.alloc (.cells #[.string (mk xn), .string (mk xv), .int .i64 xf, .int .i64 xo, .int .i64 xe] 36)) w4.heap.size (mk xn) (mk xv) xf xo xe) := heap_alloc_new w4 _
          have vn := fun W => var_neq (mk xn) (mk xv) xf xo xe W
          have hs4 : ∀ o, w4.heap.size < (w4.alloc o).heap.size := fun o => by rw [World.size_alloc]; omega
          clear hgv hgs qg hb4 hb5 e1
          go_wp2_with fail
          refine (qr _).mono ?_
          rintro r w6 ⟨rfl, hb6⟩
          have hbx := HB.out.below hb6
          have H7 : Hid (∀ o, PS w2.heap.size w2 (w6.alloc o) w2.heap.size m' (w2.heap.size + 1) v' L' (osum (os.take k) + 1 + vl.length) tq uq) := fun o => (H5.out _).below (below_alloc hb6 (Nat.le_refl _) o)
          have c0 : ∀ o, (w6.alloc o).cell? ⟨w4.heap.size, 0, none⟩ = some (.string (mk xn)) := fun o => (hbx.below (below_alloc (Below.refl _ _) (Nat.le_refl _) o)).c0
          have c1 : ∀ o, (w6.alloc o).cell? ⟨w4.heap.size, 1, none⟩ = some (.string (mk xv)) := fun o => (hbx.below (below_alloc (Below.refl _ _) (Nat.le_refl _) o)).c1
          have c2 : ∀ o, (w6.alloc o).cell? ⟨w4.heap.size, 2, none⟩ = some (.int .i64 xf) := fun o => (hbx.below (below_alloc (Below.refl _ _) (Nat.le_refl _) o)).c2
          have c3 : ∀ o, (w6.alloc o).cell? ⟨w4.heap.size, 3, none⟩ = some (.int .i64 xo) := fun o => (hbx.below (below_alloc (Below.refl _ _) (Nat.le_refl _) o)).c3
          have c4 : ∀ o, (w6.alloc o).cell? ⟨w4.heap.size, 4, none⟩ = some (.int .i64 xe) := fun o => (hbx.below (below_alloc (Below.refl _ _) (Nat.le_refl _) o)).c4
          have hw46 : w4.heap.size < w6.heap.size := hbx.lt
          have bn : (gs != gs) = false := by simp
          clear qr f1 hb6 hbx
          go_wp2
          exact ⟨⟨k + 1, m', v', L', by omega, by simp, (H7.out _).mono (by rw [osum_take hn]; dsimp only; omega)⟩, by simp [intOf]; omega⟩
      · obtain rfl : k = os.length := by omega
        have k1 : ¬ (os.length : Int) < os.length := by omega
        obtain ⟨wo, rfl⟩ : ∃ wo, wo = wr := ⟨_, rfl⟩
        have ql := list_any w2.heap.size m L wo hp.both.st
        have hcn := hp.both.st.cnt
        have HP := hide' hp
        clear hp HPS hO2
        go_wp2_with fail
        refine ql.mono ?_
        rintro r w5 ⟨v5, rfl, hrow5, hb5⟩
        have hge5 := hrow5.ge
        have ho5 := hrow5.own
        obtain ⟨la, lc, hv5⟩ := ho5.len
        rw [List.length_map] at hv5
        subst hv5
        have hp5 := HP.out.below hb5
        have c5 := hp5.both.rf.rb.c0
        have qs := same_any _ v (L.map (·.2)) w5 ho5 hp5.both.rf.row (by rw [List.length_map]; exact hcn)
        have HO5 := hide' ho5
        have HB5 := hide' hb5
        have HG5 := hide' hge5
        clear ql hrow5 hb5 ho5 hge5 hp5
        go_wp2_with fail
        refine qs.mono ?_
        rintro r w6 ⟨rfl, hb6⟩
        have HB6 : Hid (Below wo.heap.size wo w6) := HB5.out.trans (hb6.mono HB5.out.size)
        have HO6 : Hid (VOwn w6 (.slice la L.length lc) (L.map (·.2))) := HO5.out.kept fun g hg => hb6.block g (HO5.out.lt g hg)
        clear hb6 qs c5
        go_wp2
        go_loopw [18] (fun i wz => ∃ (k : Nat) (vs : List Vr), k ≤ L.length ∧ i = .int .i64 k ∧ vs.length = L.length ∧ VOwn wz (.slice la L.length lc) vs ∧ Below wo.heap.size wo wz) (fun i _ => L.length - (intOf i).toNat)
        case atStart => exact ⟨0, _, Nat.zero_le _, rfl, by rw [List.length_map], HO6.out, HB6.out⟩
        case round =>
          obtain ⟨k, vs, hk2, rfl, hvs, hoz, hbz⟩ := hrel
          by_cases hkl2 : k < L.length
          · have k2 : (k : Int) < L.length := by omega
            obtain ⟨x, hx⟩ : ∃ x, vs[k]? = some x := ⟨_, List.getElem?_eq_getElem (by omega)⟩
            obtain ⟨g, cap, e, hc, d0, _, _, _, _⟩ := hoz.at hx
            rw [hvs] at e hc
            cases e
            obtain ⟨cur, hcur⟩ := hoz.elem g rfl
            have z0 := Lib.frozen_of_heap hcur (k * 5)
            have hset := VOwn.set hoz hx 0 (by omega) (.string ⟨#[63]⟩) { x with name := [63] } rfl
            simp only [Nat.add_zero] at hset
            have hbs : Below wo.heap.size wo (wr.setCell ⟨g, k * 5, none⟩ (.string ⟨#[63]⟩)) := hbz.setCell (p := ⟨g, k * 5, none⟩) (HG5.out g rfl) _
            have HE := hide' (And.intro hset hbs)
            clear hset hbs hoz hbz hcur
            go_wp2
            exact ⟨⟨k + 1, _, by omega, by simp, by rw [List.length_set]; exact hvs, HE.out.1, HE.out.2⟩, by simp [intOf]; omega⟩
          · obtain rfl : k = L.length := by omega
            have k2 : ¬ (L.length : Int) < L.length := by omega
            have hpz := HP.out.below hbz
            have HPZ := hide' hpz
            clear hoz hbz hpz HP
            have htw := HPZ.out.tw
            rcases htw with ⟨ht8, ht9⟩ | ⟨Tb, m2, Lh, ht8, sT, oU, _⟩
            · subst ht8
              subst ht9
              go_wp2
              obtain ⟨wf, hwf⟩ : ∃ wf, wf = wr := ⟨_, rfl⟩
              have HF : Hid (PS w2.heap.size w2 wf w2.heap.size m (w2.heap.size + 1) v L (osum (os.take os.length)) (.pointer none) (.slice none 0 0)) := by rw [hwf]; exact HPZ.out
              rw [← hwf]
              clear hwf HPZ
              refine wp_region_class (C := fun W => W.cell? ⟨w2.heap.size + 1, 0, none⟩ = some v) (by kernel_rfl) ?_
              have hfc : wf.drew.cell? ⟨w2.heap.size + 1, 0, none⟩ = some v := HF.out.both.rf.rb.c0
              have qe := list_any w2.heap.size m L wf.drew (HF.out.both.st.keep rfl fun _ _ => rfl)
              (refine wpAnyC_take (i := 0) (v := ?_) hfc rfl (by kernel_rfl) (by kernel_rfl) (by kernel_rfl) (fun _ _ _ h => h) (Or.inl ⟨by kernel_rfl, ?_⟩) ?_; rotate_left; (intro w hc; have x1 := hc; clear hc; go_simp; try with_reducible rfl))
              (refine wpAnyC_take (i := 1) (v := ?_) hfc rfl (by kernel_rfl) (by kernel_rfl) (by kernel_rfl) (fun _ _ _ h => h) (Or.inl ⟨by kernel_rfl, ?_⟩) ?_; rotate_left; (intro w hc; have x1 := hc; clear hc; go_simp; try with_reducible rfl))
              (refine wpAnyC_take (i := 2) (v := ?_) hfc rfl (by kernel_rfl) (by kernel_rfl) (by kernel_rfl) (fun _ _ _ h => h) (Or.inl ⟨by kernel_rfl, ?_⟩) ?_; rotate_left; (intro w hc; have x1 := hc; clear hc; go_simp; try with_reducible rfl))
              (refine wpAnyC_take (i := 4) (v := ?_) hfc rfl (by kernel_rfl) (by kernel_rfl) (by kernel_rfl) (fun _ _ _ h => h) (Or.inl ⟨by kernel_rfl, ?_⟩) ?_; rotate_left; (intro w hc; have x1 := hc; clear hc; go_simp; try with_reducible rfl))
              (refine wpAnyC_take (i := 5) (v := ?_) hfc rfl (by kernel_rfl) (by kernel_rfl) (by kernel_rfl) (fun _ _ _ h => h) (Or.inl ⟨by kernel_rfl, ?_⟩) ?_; rotate_left; (intro w hc; have x1 := hc; clear hc; go_simp; try with_reducible rfl))
              (refine wpAnyC_take (i := 6) (v := ?_) hfc rfl (by kernel_rfl) (by kernel_rfl) (by kernel_rfl) (fun _ _ _ h => h) (Or.inl ⟨by kernel_rfl, ?_⟩) ?_; rotate_left; (intro w hc; have x1 := hc; clear hc; go_simp; try with_reducible rfl))
              (refine wpAnyC_take (i := 7) (v := ?_) hfc rfl (by kernel_rfl) (by kernel_rfl) (by kernel_rfl) (fun _ _ _ h => h) (Or.inl ⟨by kernel_rfl, ?_⟩) ?_; rotate_left; (intro w hc; have x1 := hc; clear hc; go_simp; try with_reducible rfl))
              go_simp
              refine wpAnyC_one (i := 3) (by kernel_rfl) (wpOp_wanted rfl (by rfl) ?_)
              go_simp
              refine qe.mono ?_
              rintro r wg ⟨vg, rfl, hrg, hbg⟩
              dsimp only
              have hpg := HF.out.below (w' := wg) ⟨hbg.os, hbg.tape, hbg.output, hbg.size, hbg.block⟩
              have hcg := hpg.both.rf.rb.c0
              have qh := same_any vg v (L.map (·.2)) wg hrg.own hpg.both.rf.row (by rw [List.length_map]; exact hcn)
              have HPG := hide' hpg.bel
              refine ⟨hcg, ?_⟩
              clear hrg hbg hpg qe
              refine wpAnyC_one (i := 8) (by kernel_rfl) (wpOp_wanted rfl (by rfl) ?_)
              go_simp
              refine qh.mono ?_
              rintro r wh ⟨rfl, hbh⟩
              dsimp only
              have hch : wh.cell? ⟨w2.heap.size + 1, 0, none⟩ = some v := (hbh.cell (p := ⟨w2.heap.size + 1, 0, none⟩) (World.block_lt_of_cell? _ _ hcg)).trans hcg
              have HE : Hid (Below w.heap.size w wh) := HB2.out.trans ((HPG.out.trans (hbh.mono HPG.out.size)).mono HB2.out.size)
              refine ⟨hch, ?_⟩
              clear hbh qh
              refine wpAnyC_one (i := 9) (by kernel_rfl) (wpOp_wanted rfl (by rfl) ?_)
              go_simp
              refine wpAnyC_one (i := 10) (by kernel_rfl) (wpOp_wanted rfl (by rfl) ?_)
              go_simp
              refine wpAnyC_done (by kernel_rfl) ?_ _
              go_wp2
              go_ret
              exact ⟨rfl, HE.out⟩
            · subst ht8
              have qq := list_any Tb m2 Lh wr sT
              have hcT := sT.cnt
              have HU := hide' oU
              clear sT oU
              go_wp2_with fail
              refine qq.mono ?_
              rintro r wx ⟨vx, rfl, hrx, hbx⟩
              have qy := same_any vx u9 (Lh.map (·.2)) wx hrx.own (HU.out.kept fun g hg => hbx.block g (HU.out.lt g hg)) (by rw [List.length_map]; exact hcT)
              have HX := hide' hbx
              clear hrx hbx qq
              go_wp2_with fail
              refine qy.mono ?_
              rintro r wf ⟨rfl, hbf⟩
              have HF : Hid (PS w2.heap.size w2 wf w2.heap.size m (w2.heap.size + 1) v L (osum (os.take os.length)) (.pointer (some ⟨Tb, 0, none⟩)) u9) := (HPZ.out.below HX.out).below hbf
              clear HPZ HX hbf qy
              go_wp2
              refine wp_region_class (C := fun W => W.cell? ⟨w2.heap.size + 1, 0, none⟩ = some v) (by kernel_rfl) ?_
              have hfc : wf.drew.cell? ⟨w2.heap.size + 1, 0, none⟩ = some v := HF.out.both.rf.rb.c0
              have qe := list_any w2.heap.size m L wf.drew (HF.out.both.st.keep rfl fun _ _ => rfl)
              (refine wpAnyC_take (i := 0) (v := ?_) hfc rfl (by kernel_rfl) (by kernel_rfl) (by kernel_rfl) (fun _ _ _ h => h) (Or.inl ⟨by kernel_rfl, ?_⟩) ?_; rotate_left; (intro w hc; have x1 := hc; clear hc; go_simp; try with_reducible rfl))
              (refine wpAnyC_take (i := 1) (v := ?_) hfc rfl (by kernel_rfl) (by kernel_rfl) (by kernel_rfl) (fun _ _ _ h => h) (Or.inl ⟨by kernel_rfl, ?_⟩) ?_; rotate_left; (intro w hc; have x1 := hc; clear hc; go_simp; try with_reducible rfl))
              (refine wpAnyC_take (i := 2) (v := ?_) hfc rfl (by kernel_rfl) (by kernel_rfl) (by kernel_rfl) (fun _ _ _ h => h) (Or.inl ⟨by kernel_rfl, ?_⟩) ?_; rotate_left; (intro w hc; have x1 := hc; clear hc; go_simp; try with_reducible rfl))
              (refine wpAnyC_take (i := 4) (v := ?_) hfc rfl (by kernel_rfl) (by kernel_rfl) (by kernel_rfl) (fun _ _ _ h => h) (Or.inl ⟨by kernel_rfl, ?_⟩) ?_; rotate_left; (intro w hc; have x1 := hc; clear hc; go_simp; try with_reducible rfl))
              (refine wpAnyC_take (i := 5) (v := ?_) hfc rfl (by kernel_rfl) (by kernel_rfl) (by kernel_rfl) (fun _ _ _ h => h) (Or.inl ⟨by kernel_rfl, ?_⟩) ?_; rotate_left; (intro w hc; have x1 := hc; clear hc; go_simp; try with_reducible rfl))
              (refine wpAnyC_take (i := 6) (v := ?_) hfc rfl (by kernel_rfl) (by kernel_rfl) (by kernel_rfl) (fun _ _ _ h => h) (Or.inl ⟨by kernel_rfl, ?_⟩) ?_; rotate_left; (intro w hc; have x1 := hc; clear hc; go_simp; try with_reducible rfl))
              (refine wpAnyC_take (i := 7) (v := ?_) hfc rfl (by kernel_rfl) (by kernel_rfl) (by kernel_rfl) (fun _ _ _ h => h) (Or.inl ⟨by kernel_rfl, ?_⟩) ?_; rotate_left; (intro w hc; have x1 := hc; clear hc; go_simp; try with_reducible rfl))
              go_simp
              refine wpAnyC_one (i := 3) (by kernel_rfl) (wpOp_wanted rfl (by rfl) ?_)
              go_simp
              refine qe.mono ?_
              rintro r wg ⟨vg, rfl, hrg, hbg⟩
              dsimp only
              have hpg := HF.out.below (w' := wg) ⟨hbg.os, hbg.tape, hbg.output, hbg.size, hbg.block⟩
              have hcg := hpg.both.rf.rb.c0
              have qh := same_any vg v (L.map (·.2)) wg hrg.own hpg.both.rf.row (by rw [List.length_map]; exact hcn)
              have HPG := hide' hpg.bel
              refine ⟨hcg, ?_⟩
              clear hrg hbg hpg qe
              refine wpAnyC_one (i := 8) (by kernel_rfl) (wpOp_wanted rfl (by rfl) ?_)
              go_simp
              refine qh.mono ?_
              rintro r wh ⟨rfl, hbh⟩
              dsimp only
              have hch : wh.cell? ⟨w2.heap.size + 1, 0, none⟩ = some v := (hbh.cell (p := ⟨w2.heap.size + 1, 0, none⟩) (World.block_lt_of_cell? _ _ hcg)).trans hcg
              have HE : Hid (Below w.heap.size w wh) := HB2.out.trans ((HPG.out.trans (hbh.mono HPG.out.size)).mono HB2.out.size)
              refine ⟨hch, ?_⟩
              clear hbh qh
              refine wpAnyC_one (i := 9) (by kernel_rfl) (wpOp_wanted rfl (by rfl) ?_)
              go_simp
              refine wpAnyC_one (i := 10) (by kernel_rfl) (wpOp_wanted rfl (by rfl) ?_)
              go_simp
              refine wpAnyC_done (by kernel_rfl) ?_ _
              go_wp2
              go_ret
              exact ⟨rfl, HE.out⟩
end Go.Proofs.Ytillechackcbpaa
