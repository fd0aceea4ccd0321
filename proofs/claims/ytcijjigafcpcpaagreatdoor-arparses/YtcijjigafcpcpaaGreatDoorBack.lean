/- The walk of the law ArBack. -/
import Derived.Test.YtcijjigafcpcpaaGreatDoorPar
import Derived.Test.YtcijjigafcpcpaaGreatDoorAlive
import Derived.Test.YtcijjigafcpcpaaGreatDoorSame
namespace Go.Proofs.YtcijjigafcpcpaaGreatDoor
open Go.RowKit Go.Maps Go.Shelf

theorem Tbs.rds {w : World} {v : Value} {t : Bs} (h : Tbs w v t) : Rds w v t := by
  rcases h with ⟨rfl, rfl⟩ | ⟨a, n, cap, rfl, hn, hc, hr⟩
  · exact .inl ⟨rfl, rfl⟩
  · exact hr
theorem len_sumz {ns : List Mv} (f : Mv → Nat) (hf : ∀ m, 1 ≤ f m) : ns.length ≤ sumM f ns := by
  induction ns with
  | nil => simp [sumM]
  | cons m r ih => have := hf m; simp only [sumM, List.length_cons]; omega
theorem zero_small {ms : List Mv} (h : wrongR ms = 0) : Fine ms := by
  obtain ⟨h1, h2, h3⟩ := wrong_zero h
  refine ⟨by omega, by omega, fun m hm => ?_⟩
  have h4 := (nmb_parts (okM_parts (List.all_eq_true.1 h3 m hm)).1)
  omega
set_option maxRecDepth 100000 in
set_option maxHeartbeats 8000000 in
theorem back_any' (sa : Option Addr) (cap : Nat) (ns : List Mv) (ba : Option Addr) (bn bc : Nat) (bs : Bs) (w : World) (hE : Env w) (hS : EvS w) (hX : Mx w) (h3 : 3 < w.heap.size) (hM : Mems w (.slice sa ns.length cap) ns) (hT : Tbs w (.slice ba bn bc) bs) (hbn : bn = bs.length)
    (hl : ns.length ≤ 140737488355328) (hlim : ∀ n ∈ ns, n.data.length ≤ 140737488355328 ∧ n.name.length ≤ 140737488355328) :
    Calls Tryz.prog 5 #[.slice sa ns.length cap, .slice ba bn bc] w fun r w' => r = .returned (.bool true) ∧ Below w.heap.size w w' := by
  have qa := alive_any w hE (by omega)
  have HBN := hide' hbn
  clear hbn
  go_enter Tryz.func5, Tryz.ntmps5
  go_wp2_with fail
  refine qa.mono ?_
  rintro r w1 ⟨rfl, hb1⟩
  clear qa
  have qb := big_any _ ns w1 (hM.below hb1) hl hlim
  dsimp only
  go_wp2_with fail
  refine qb.mono ?_
  rintro r w2 ⟨⟨b1, rfl, hbig⟩, hb2⟩
  dsimp only
  have hB2 := hb1.trans (hb2.mono hb1.size)
  have hs2 := hB2.size
  clear qb
  cases b1 with
  | true =>
    clear hbig hb1 hb2 hM hlim hE hS hX hT
    go_wp2
    go_ret
    exact ⟨rfl, hB2⟩
  | false =>
    have hbig := hbig rfl
    by_cases hlong : 70000 < bn
    · have g1 : (70000 : Int) < (bn : Int) := by omega
      clear hbig hb1 hb2 hM hlim hE hS hX hT
      go_wp2
      go_ret
      exact ⟨rfl, hB2⟩
    · have g1 : ¬ (70000 : Int) < (bn : Int) := by omega
      have qw := Write_any _ ns w2 (hM.below hB2) (fine_of hbig) (hE.keep hB2 (by omega)) (by omega)
      have hnl : ns.length ≤ 1000000 := Nat.le_trans (len_sumz wtB (fun m => by unfold wtB; omega)) (by omega)
      have HK := hide' (And.intro hB2 (And.intro hM (And.intro hT (And.intro hE (And.intro hS hX)))))
      clear hbig hb1 hb2 hM hlim hE hS hX hT hB2
      go_wp2_with fail
      refine qw.mono ?_
      rintro r w3 ⟨hb3, hw⟩
      clear qw
      have hs3 := hb3.size
      have hB3 := HK.out.1.trans (hb3.mono hs2)
      rcases hw with ⟨hz, v3, rfl, hd3, ho3⟩ | ⟨hz, rfl⟩
      · obtain ⟨va, vn, vc, hv⟩ := hd3.form
        subst hv
        have qp := Parse_any _ (archB ns) w3 hd3.tbs (by have := (arch_scan hz rfl).2; omega) (HK.out.2.2.2.1.keep hB3 (by omega)) (HK.out.2.2.2.2.1.below hB3 (by omega)) (HK.out.2.2.2.2.2.below hB3 (by omega)) (by omega)
        have qn := fun w => num_any 0 w
        have HB3 := hide' (And.intro hB3 (And.intro hz hd3))
        clear hB3 hz hd3 ho3 hb3
        dsimp only
        go_wp2_with fail
        refine (qn _).mono ?_
        rintro r w4 ⟨rfl, rfl⟩
        dsimp only
        go_wp2_with fail
        refine qp.mono ?_
        rintro r w5 ⟨hb5, hps⟩
        clear qp
        rcases hps with ⟨v5, ms, rfl, hms, h1, h2, h4⟩ | ⟨k, rfl, _, hno⟩
        · have hse : ms.map toE = ns.map toE := by
            have e := (arch_scan HB3.out.2.1 rfl).1
            rw [h4] at e
            exact Option.some.inj e
          have hs5 := hb5.size
          have hB5 := HB3.out.1.trans (hb5.mono (by omega))
          have qs := Same_any _ _ ms ns w5 hms.mems (HK.out.2.1.below hB5) hnl
          obtain ⟨xa, xc, hx⟩ := hms.mems.len
          subst hx
          have HB5 := hide' hB5
          clear hB5 hms h1 h2 h4 hb5
          dsimp only
          go_wp2_with (go_at_call 14; refine (qn _).mono ?_; rintro r w6 ⟨rfl, rfl⟩)
          have HSE := hide' hse
          clear hse hbig
          refine qs.mono ?_
          rintro r w7 ⟨⟨b7, rfl, hb7t⟩, hb7⟩
          obtain rfl : b7 = true := hb7t.2 HSE.out
          have hs7 := hb7.size
          have HB7 := hide' (HB5.out.trans (hb7.mono (by omega)))
          clear hb7 hb7t qs qn
          dsimp only
          have qp2 := Parse_any (.slice ba bn bc) bs w7 (HK.out.2.2.1.below HB7.out) (by have := HBN.out; omega) (HK.out.2.2.2.1.keep HB7.out (by omega)) (HK.out.2.2.2.2.1.below HB7.out (by omega)) (HK.out.2.2.2.2.2.below HB7.out (by omega)) (by omega)
          go_wp2_with fail
          refine qp2.mono ?_
          rintro r w8 ⟨hb8, hps⟩
          clear qp2
          have hs8 := hb8.size
          have HB8 := hide' (HB7.out.trans (hb8.mono (by omega)))
          rcases hps with ⟨v8, ms8, rfl, hms, h1, h2, h4⟩ | ⟨k8, rfl, hk8, _⟩
          · obtain ⟨ya, yc, hy⟩ := hms.mems.len
            subst hy
            have qw2 := Write_any _ ms8 w8 hms.mems (zero_small h1) (HK.out.2.2.2.1.keep HB8.out (by omega)) (by omega)
            have HH := hide' (And.intro h1 h2)
            clear hms h1 h2 h4 hb8
            dsimp only
            go_wp2_with (go_at_call 14; refine (num_any 0 _).mono ?_; rintro r w9 ⟨rfl, rfl⟩)
            refine qw2.mono ?_
            rintro r w10 ⟨hb10, hw⟩
            clear qw2
            have hs10 := hb10.size
            have HB10 := hide' (HB8.out.trans (hb10.mono (by omega)))
            rcases hw with ⟨_, v10, rfl, hd10, _⟩ | ⟨hz10, _⟩
            · obtain ⟨za, zn, zc, hzv⟩ := hd10.form
              subst hzv
              have cv1 := rds_str hd10.rds
              rw [HH.out.2] at cv1
              have cv2 := rds_str (HK.out.2.2.1.rds.below HB10.out)
              clear hd10 hb10
              dsimp only
              go_wp2_with (go_at_call 14; refine (num_any 0 _).mono ?_; rintro r w11 ⟨rfl, rfl⟩)
              go_ret
              exact ⟨rfl, HB10.out⟩
            · exact absurd HH.out.1 hz10
          · clear hb8
            rcases hk8 with ⟨rfl, _⟩ | ⟨rfl, _⟩
            · dsimp only
              go_wp2_with (go_at_call 14; refine (num_any _ _).mono ?_; rintro r w9 ⟨rfl, rfl⟩)
              go_ret
              exact ⟨rfl, HB8.out⟩
            · dsimp only
              go_wp2_with (go_at_call 14; refine (num_any _ _).mono ?_; rintro r w9 ⟨rfl, rfl⟩)
              go_ret
              exact ⟨rfl, HB8.out⟩
        · exact absurd rfl (hno ns HB3.out.2.1)
      · obtain ⟨kz, hkz⟩ : ∃ kz, kz = wrongR ns := ⟨_, rfl⟩
        rw [← hkz] at hz ⊢
        have e1 : ¬ (kz : Int) = 0 := by omega
        have e2 : ((kz : Int) == 0) = false := beq_eq_false_iff_ne.2 e1
        have HB3 := hide' hB3
        clear hB3 hb3 hkz hbig
        dsimp only
        go_wp2_with fail
        refine (num_any _ _).mono ?_
        rintro r w7 ⟨rfl, rfl⟩
        dsimp only
        have qp2 := Parse_any (.slice ba bn bc) bs w7 (HK.out.2.2.1.below HB3.out) (by have := HBN.out; omega) (HK.out.2.2.2.1.keep HB3.out (by omega)) (HK.out.2.2.2.2.1.below HB3.out (by omega)) (HK.out.2.2.2.2.2.below HB3.out (by omega)) (by omega)
        go_wp2_with fail
        refine qp2.mono ?_
        rintro r w8 ⟨hb8, hps⟩
        clear qp2
        have hs8 := hb8.size
        have HB8 := hide' (HB3.out.trans (hb8.mono (by omega)))
        rcases hps with ⟨v8, ms8, rfl, hms, h1, h2, h4⟩ | ⟨k8, rfl, hk8, _⟩
        · obtain ⟨ya, yc, hy⟩ := hms.mems.len
          subst hy
          have qw2 := Write_any _ ms8 w8 hms.mems (zero_small h1) (HK.out.2.2.2.1.keep HB8.out (by omega)) (by omega)
          have HH := hide' (And.intro h1 h2)
          clear hms h1 h2 h4 hb8
          dsimp only
          go_wp2_with (go_at_call 14; refine (num_any 0 _).mono ?_; rintro r w9 ⟨rfl, rfl⟩)
          refine qw2.mono ?_
          rintro r w10 ⟨hb10, hw⟩
          clear qw2
          have hs10 := hb10.size
          have HB10 := hide' (HB8.out.trans (hb10.mono (by omega)))
          rcases hw with ⟨_, v10, rfl, hd10, _⟩ | ⟨hz10, _⟩
          · obtain ⟨za, zn, zc, hzv⟩ := hd10.form
            subst hzv
            have cv1 := rds_str hd10.rds
            rw [HH.out.2] at cv1
            have cv2 := rds_str (HK.out.2.2.1.rds.below HB10.out)
            clear hd10 hb10
            dsimp only
            go_wp2_with (go_at_call 14; refine (num_any 0 _).mono ?_; rintro r w11 ⟨rfl, rfl⟩)
            go_ret
            exact ⟨rfl, HB10.out⟩
          · exact absurd HH.out.1 hz10
        · clear hb8
          rcases hk8 with ⟨rfl, _⟩ | ⟨rfl, _⟩
          · dsimp only
            go_wp2_with (go_at_call 14; refine (num_any _ _).mono ?_; rintro r w9 ⟨rfl, rfl⟩)
            go_ret
            exact ⟨rfl, HB8.out⟩
          · dsimp only
            go_wp2_with (go_at_call 14; refine (num_any _ _).mono ?_; rintro r w9 ⟨rfl, rfl⟩)
            go_ret
            exact ⟨rfl, HB8.out⟩
/-- the law ArBack answers true -/
theorem back_any (v0 v1 : Value) (ns : List Mv) (bs : Bs) (w : World) (hE : Env w) (hS : EvS w) (hX : Mx w) (h3 : 3 < w.heap.size) (hM : Mems w v0 ns) (hT : Tbs w v1 bs)
    (hl : ns.length ≤ 140737488355328) (hlim : ∀ n ∈ ns, n.data.length ≤ 140737488355328 ∧ n.name.length ≤ 140737488355328) :
    Calls Tryz.prog 5 #[v0, v1] w fun r w' => r = .returned (.bool true) ∧ Below w.heap.size w w' := by
  obtain ⟨sa, cap, hv⟩ := hM.len
  subst hv
  have hT' := hT
  rcases hT with ⟨rfl, rfl⟩ | ⟨a, n, cap1, rfl, hn, _, _⟩
  · exact back_any' sa cap ns none 0 0 [] w hE hS hX h3 hM hT' rfl hl hlim
  · exact back_any' sa cap ns (some a) n cap1 bs w hE hS hX h3 hM hT' hn hl hlim
end Go.Proofs.YtcijjigafcpcpaaGreatDoor
