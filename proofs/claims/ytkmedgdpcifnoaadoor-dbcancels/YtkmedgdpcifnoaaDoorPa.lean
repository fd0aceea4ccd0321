/- The contracts of db.bare and db.endings.parted. -/
import Derived.Test.YtkmedgdpcifnoaaDoorEn
import Derived.Test.YtkmedgdpcifnoaaDoorCpo
namespace Go.Proofs.YtkmedgdpcifnoaaDoor
open Go.RowKit Go.Shelf

/-- a rule as a value -/
abbrev rxV (x : Rx) : Value := .agg (rxC x).toArray
theorem prefix_is (t s : Bs) : Lib.hasPrefix t s = begins t s := rfl
theorem bare_any (x : Rx) (w : World) (h : RxS w x) (hf : FitR 1000000000 x.r) :
    Calls Tryd.prog 54 #[rxV x] w fun e w' => e = .returned (.bool (bareP x.r)) ∧ Below w.heap.size w w' := by
  obtain ⟨⟨rts, rps, ros, rdbl, rpat, rter, rsta, rrcp, rhas, raga, rblt⟩, va, vb, vc, vd⟩ := x
  obtain ⟨s0, s1, s2, s3⟩ := h
  obtain ⟨f0, f1, f2, f3, n0, n1, n2, n3, n4, n5⟩ := hf
  simp only at s0 s1 s2 s3 f0 f1 f2 n5
  obtain ⟨aa, ca, rfl⟩ := s0.form
  obtain ⟨ab, cb, rfl⟩ := s1.form
  obtain ⟨ac, cc, rfl⟩ := s2.form
  obtain ⟨ad, nd, cd, rfl⟩ := s3.form3
  clear s0 s1 s2 s3 n0 n1 n2 n3 f3
  have hP : bareP ⟨rts, rps, ros, rdbl, rpat, rter, rsta, rrcp, rhas, raga, rblt⟩ = (((rts.length == 1) && (rps.length + ros.length + raga.length == 0)) && !rdbl && rhas) := rfl
  have hsz : (mk raga).size = raga.length := mk_size raga
  rw [hP]
  clear hP
  obtain ⟨R, hR⟩ : ∃ R, R = (((rts.length == 1) && (rps.length + ros.length + raga.length == 0)) && !rdbl && rhas) := ⟨_, rfl⟩
  rw [← hR]
  show Calls Tryd.prog 54 #[.agg #[.slice aa rts.length ca, .slice ab rps.length cb, .slice ac ros.length cc, .bool rdbl, .bool rpat, .bool rter, .string (mk rsta), .slice ad nd cd, .bool rhas, .string (mk raga), .bool rblt]] w _
  generalize mk rsta = sta
  generalize mk raga = aga at hsz
  generalize rts.length = na at f0 hR ⊢
  generalize rps.length = nb at f1 hR ⊢
  generalize ros.length = nc at f2 hR ⊢
  generalize raga.length = ng at n5 hsz hR
  have HR := hide' hR
  clear hR
  have hag : aga.size ≤ 1000000000 := by omega
  have HSZ := hide' hsz
  clear hsz
  go_enter Tryd.func54, Tryd.ntmps54
  go_wp2
  all_goals (go_ret; refine ⟨?_, below_alloc (Below.refl _ w) (Nat.le_refl _) _⟩; refine ret_bool ?_; rw [HR.out]; have hsz' := HSZ.out)
  all_goals first
    | (rw [show (na == 1) = false from beq_eq_false_iff_ne.2 (by omega)]; rfl)
    | (rw [show (na == 1) = true from beq_iff_eq.2 (by omega), show (nb + nc + ng == 0) = false from beq_eq_false_iff_ne.2 (by omega)]; rfl)
    | (rw [show (na == 1) = true from beq_iff_eq.2 (by omega), show (nb + nc + ng == 0) = true from beq_iff_eq.2 (by omega)]; simp_all)
theorem part_cons_yes (all : List Bs) (t s : Bs) (r : List Bs) (h1 : begins t s = true) (h2 : hasB all (t.drop s.length) = true) : partP all t (s :: r) = (s, t.drop s.length, true) := by
  unfold partP
  rw [h1, h2]
  rfl
theorem part_cons_no1 (all : List Bs) (t s : Bs) (r : List Bs) (h1 : begins t s = false) : partP all t (s :: r) = partP all t r := by
  rw [partP, h1]
  rfl
theorem part_cons_no2 (all : List Bs) (t s : Bs) (r : List Bs) (h2 : hasB all (t.drop s.length) = false) : partP all t (s :: r) = partP all t r := by
  rw [partP, h2, Bool.and_false]
  rfl
/-- what parted tells -/
abbrev ptV (x : Bs × Bs × Bool) : Value := .tuple #[sV x.1, sV x.2.1, .bool x.2.2]
theorem cutP_yes (x s : Bs) (w : World) (h : begins x s = true) : Calls Tryd.prog 63 #[sV x, sV s] w fun e w' => e = .returned (.tuple #[sV (x.drop s.length), .bool true]) ∧ w' = w := by
  have := Tryd.strings_CutPrefix (mk x) (mk s) w
  have e1 : Lib.hasPrefix x s = true := h
  have e2 : Lib.trimPrefix x s = x.drop s.length := by unfold Lib.trimPrefix; rw [e1]; rfl
  simp only [e1, e2] at this
  exact this
theorem cutP_no (x s : Bs) (w : World) (h : begins x s = false) : Calls Tryd.prog 63 #[sV x, sV s] w fun e w' => e = .returned (.tuple #[sV x, .bool false]) ∧ w' = w := by
  have := Tryd.strings_CutPrefix (mk x) (mk s) w
  have e1 : Lib.hasPrefix x s = false := h
  have e2 : Lib.trimPrefix x s = x := by unfold Lib.trimPrefix; rw [e1]; rfl
  simp only [e1, e2] at this
  exact this
theorem drop_one (e : List Bs) (k : Nat) (h : k < e.length) : e.drop k = e.getD k [] :: e.drop (k + 1) := by
  rw [List.drop_eq_getElem_cons h, List.getD_eq_getElem?_getD, List.getElem?_eq_getElem h]; rfl
set_option maxRecDepth 100000 in
set_option maxHeartbeats 4000000 in
theorem parted_some (e : List Bs) (b off cap M : Nat) (x : Bs) (w : World) (hl : e.length ≤ 100000000) (hb : b < w.heap.size) (hM : SetAt w M e) (hx : x.length ≤ 1000000000) (hc : ∀ j, j < e.length → w.cell? ⟨b, off + j, none⟩ = some (sV (e.getD j []))) :
    Calls Tryd.prog 55 #[.agg #[.slice (some ⟨b, off, none⟩) e.length cap, .map (some M)], sV x] w fun r w' => r = .returned (ptV (partP e x e)) ∧ Below w.heap.size w w' := by
  obtain ⟨R, hR⟩ : ∃ R, R = partP e x e := ⟨_, rfl⟩
  have HR := hide' hR
  rw [← hR]
  clear hR
  have hbx : Bx2 (w.alloc (.cells #[.slice (some ⟨b, off, none⟩) e.length cap, .map (some M)] 60)) w.heap.size (.slice (some ⟨b, off, none⟩) e.length cap) (.map (some M)) := heap_alloc_new w _
  have hB0 : Below w.heap.size w (w.alloc (.cells #[.slice (some ⟨b, off, none⟩) e.length cap, .map (some M)] 60)) := (Below.refl _ w).alloc (Nat.le_refl _) _
  go_enter Tryd.func55, Tryd.ntmps55
  go_wp2
  generalize w.alloc (.cells #[.slice (some ⟨b, off, none⟩) e.length cap, .map (some M)] 60) = w0 at hbx hB0 ⊢
  generalize hA : w.heap.size = A at hbx ⊢
  have HA := hide' hA
  clear hA
  go_loopw [14] (fun i wr => ∃ k : Nat, k ≤ e.length ∧ i = .int .i64 k ∧ Bx2 wr A (.slice (some ⟨b, off, none⟩) e.length cap) (.map (some M)) ∧ Below w.heap.size w wr ∧ Hid (R = partP e x (e.drop k))) (fun i _ => e.length - (intOf i).toNat)
  case atStart => exact ⟨0, Nat.zero_le _, rfl, hbx, hB0, HR.out⟩
  case round =>
    clear hbx hB0 HR
    obtain ⟨k, hk, rfl, hE, hB, HI⟩ := hrel
    have e0 := hE.c0
    have e1 := hE.c1
    by_cases hlt : k < e.length
    · have cc := (hB.cell (p := ⟨b, off + k, none⟩) hb).trans (hc k hlt)
      have hd := drop_one e k hlt
      have kY := fun h => cutP_yes x (e.getD k []) wr h
      have kN := fun h => cutP_no x (e.getD k []) wr h
      generalize e.getD k [] = s at cc hd kY kN
      have HE := hide' hE
      have HB := hide' hB
      have HC := hide' hc
      have HBB := hide' hb
      have HM := hide' hM
      clear hE hB hc hb hM
      cases hbg : begins x s with
      | false =>
        have HI' : Hid (R = partP e x (e.drop (k + 1))) := by
          show _ = _
          rw [HI.out, hd, part_cons_no1 _ _ _ _ hbg]
        have kN' := kN hbg
        clear kY kN hd hbg HI
        go_wp2_with fail
        refine kN'.mono ?_
        rintro r w1 ⟨rfl, rfl⟩
        clear kN'
        go_wp2
        exact ⟨⟨k + 1, by omega, by go_num, HE.out, HB.out, HI'⟩, by simp [intOf]; omega⟩
      | true =>
        have kY' := kY hbg
        have hM1 := HM.out.below HB.out
        have kH := fun W (hW : Below wr.heap.size wr W) => have_any (.slice (some ⟨b, off, none⟩) e.length cap) M e (x.drop s.length) W ⟨_, _, _, rfl⟩ (hM1.below hW) (by rw [List.length_drop]; omega)
        clear kY kN
        cases hh : hasB e (x.drop s.length) with
        | true =>
          rw [hh] at kH
          have HI' : Hid (R = (s, x.drop s.length, true)) := by
            show _ = _
            rw [HI.out, hd, part_cons_yes _ _ _ _ hbg hh]
          clear HI hd hbg hh hM1
          generalize x.drop s.length = y at kY' kH HI'
          go_wp2_with (first | (go_at_call 63; refine kY'.mono ?_; rintro r w1 ⟨rfl, rfl⟩) | (go_at_call 53; refine (kH _ (Below.refl _ _)).mono ?_; rintro r w2 ⟨rfl, hb2⟩; have HB2 := hide' hb2; clear hb2))
          go_ret3
          exact ⟨by rw [HI'.out]; rfl, HB.out.trans (HB2.out.mono HB.out.size)⟩
        | false =>
          rw [hh] at kH
          have HI' : Hid (R = partP e x (e.drop (k + 1))) := by
            show _ = _
            rw [HI.out, hd, part_cons_no2 _ _ _ _ hh]
          clear HI hd hbg hh hM1
          generalize x.drop s.length = y at kY' kH
          go_wp2_with (first | (go_at_call 63; refine kY'.mono ?_; rintro r w1 ⟨rfl, rfl⟩) | (go_at_call 53; refine (kH _ (Below.refl _ _)).mono ?_; rintro r w2 ⟨rfl, hb2⟩; have HB2 := hide' hb2; have HE2 := hide' (HE.out.below hb2); clear hb2))
          exact ⟨⟨k + 1, by omega, by go_num, HE2.out, HB.out.trans (HB2.out.mono HB.out.size), HI'⟩, by simp [intOf]; omega⟩
    · have hke : e.drop k = [] := List.drop_eq_nil_of_le (by omega)
      have HI' : Hid (R = (x, [], hasB e x)) := by
        show _ = _
        rw [HI.out, hke]
        rfl
      have kH := have_any (.slice (some ⟨b, off, none⟩) e.length cap) M e x wr ⟨_, _, _, rfl⟩ (hM.below hB) hx
      have HB := hide' hB
      clear HI hke hc hE hB hM
      generalize hasB e x = hr at kH HI'
      go_wp2_with (go_at_call 53; refine kH.mono ?_; rintro r w2 ⟨rfl, hb2⟩; have HB2 := hide' hb2; clear hb2)
      go_ret3
      exact ⟨by rw [HI'.out]; rfl, HB.out.trans (HB2.out.mono HB.out.size)⟩
set_option maxRecDepth 100000 in
set_option maxHeartbeats 4000000 in
theorem parted_nil (a : Option Addr) (cap M : Nat) (x : Bs) (w : World) (hM : SetAt w M []) (hx : x.length ≤ 1000000000) :
    Calls Tryd.prog 55 #[.agg #[.slice a 0 cap, .map (some M)], sV x] w fun r w' => r = .returned (ptV (partP [] x [])) ∧ Below w.heap.size w w' := by
  have hbx : Bx2 (w.alloc (.cells #[.slice a 0 cap, .map (some M)] 60)) w.heap.size (.slice a 0 cap) (.map (some M)) := heap_alloc_new w _
  have hB0 : Below w.heap.size w (w.alloc (.cells #[.slice a 0 cap, .map (some M)] 60)) := (Below.refl _ w).alloc (Nat.le_refl _) _
  have kH := have_any (.slice a 0 cap) M [] x _ ⟨_, _, _, rfl⟩ (hM.below hB0) hx
  have hh : hasB [] x = false := rfl
  rw [hh] at kH
  go_enter Tryd.func55, Tryd.ntmps55
  go_wp2
  generalize w.alloc (.cells #[.slice a 0 cap, .map (some M)] 60) = w0 at hbx hB0 kH ⊢
  go_loopw [14] (fun i wr => i = .int .i64 0 ∧ wr = w0) (fun _ _ => 0)
  case atStart => exact ⟨rfl, rfl⟩
  case round =>
    obtain ⟨rfl, rfl⟩ := hrel
    have e0 := hbx.c0
    have e1 := hbx.c1
    have HB := hide' hB0
    clear hbx hB0 hM
    go_wp2_with (go_at_call 53; refine kH.mono ?_; rintro r w2 ⟨rfl, hb2⟩; have HB2 := hide' hb2; clear hb2)
    go_ret3
    exact ⟨rfl, HB.out.trans (HB2.out.mono HB.out.size)⟩
theorem parted_any (e : List Bs) (lv : Value) (M : Nat) (x : Bs) (w : World) (hl : e.length ≤ 100000000) (h : Strs w lv e) (hM : SetAt w M e) (hx : x.length ≤ 1000000000) :
    Calls Tryd.prog 55 #[.agg #[lv, .map (some M)], sV x] w fun r w' => r = .returned (ptV (partP e x e)) ∧ Below w.heap.size w w' := by
  rcases h with ⟨a, c, rfl, rfl⟩ | ⟨b, off, cap, rfl, h3, h4⟩
  · exact parted_nil a c M x w hM hx
  · exact parted_some e b off cap M x w hl h3 hM hx h4
end Go.Proofs.YtkmedgdpcifnoaaDoor
