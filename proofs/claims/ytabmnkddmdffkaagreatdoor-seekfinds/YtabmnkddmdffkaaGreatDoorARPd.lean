import Derived.Test.YtabmnkddmdffkaaGreatDoorARPp0G
import Derived.Deep.LoopGhost
import Derived.ScopeJumps
namespace Go.Proofs.YtabmnkddmdffkaaGreatDoor.Arc
open Go.RowKit Go.Maps Go.Shelf
def PdR (B : Nat) (bs : Bs) (w' : World) (r : Ending) : Prop :=
 (∃ v ms, r = .returned (.tuple #[v, .nilIface]) ∧ MsAt w' B v ms ∧ wrongR ms = 0 ∧ archB ms = bs ∧ scanR bs = some (ms.map tE)) ∨
 (∃ e k, r = .returned (.tuple #[.slice none 0 0, e]) ∧ (k = 2 ∧ 65536 < bs.length ∨ k = 20 ∧ ¬ 65536 < bs.length) ∧ IsE w' e k ∧ ∀ ms, wrongR ms = 0 → archB ms ≠ bs)
theorem magic_in (w : World) : Lib.BytesIn (w.alloc (.cells #[.int .u8 33, .int .u8 60, .int .u8 97, .int .u8 114, .int .u8 99, .int .u8 104, .int .u8 62, .int .u8 10] 5 (8, 9))) (some ⟨w.heap.size, 0, none⟩) 8 (nums magicB) := by
 refine Lib.BytesIn.of_cells fun i hi => ?_
 have h := heap_alloc_new w (.cells #[.int .u8 33, .int .u8 60, .int .u8 97, .int .u8 114, .int .u8 99, .int .u8 104, .int .u8 62, .int .u8 10] 5 (8, 9))
 rw [add_zero, Lib.cell_of_heap h]
 match i, hi with
 | 0, _ => rfl
 | 1, _ => rfl
 | 2, _ => rfl
 | 3, _ => rfl
 | 4, _ => rfl
 | 5, _ => rfl
 | 6, _ => rfl
 | 7, _ => rfl
def JB (w : World) (a : Addr) (n cap : Nat) (bs : Bs) (a' : Act) (w' : World) : Prop :=
 Below w.heap.size w w' ∧ (¬ 65536 < bs.length ∧ ∀ ms, wrongR ms = 0 → archB ms ≠ bs) ∧ ∃ (a6 : Option Addr) (n6 c6 : Nat) (u1 u2 u3 u4 u5 u7 u8 u9 u10 u11 u12 u13 u14 u15 u16 u17 u18 u19 u20 u21 u22 u23 u24 u25 u26 u27 u28 u29 u30 u31 u32 u33 u34 u35 u36 u37 u38 u39 u40 u41 u42 u43 u44 u45 u46 u47 u48 u49 u50 u51 u52 u53 u54 u55 u56 u57 u58 u59 u60 u61 u62 u63 u64 u65 u66 u67 u68 u69 u70 u71 u72 u73 u74 u75 u76 u77 u78 u79 : Value), n6 ≤ 100000 ∧ a' = ⟨#[.slice (some a) n cap, u1, u2, u3, u4, u5, .slice a6 n6 c6, u7, u8, u9, u10, u11, u12, u13, u14, u15, u16, u17, u18, u19, u20, u21, u22, u23, u24, u25, u26, u27, u28, u29, u30, u31, u32, u33, u34, u35, u36, u37, u38, u39, u40, u41, u42, u43, u44, u45, u46, u47, u48, u49, u50, u51, u52, u53, u54, u55, u56, u57, u58, u59, u60, u61, u62, u63, u64, u65, u66, u67, u68, u69, u70, u71, u72, u73, u74, u75, u76, u77, u78, u79], []⟩
theorem jb_intro {w : World} {a : Addr} {n cap : Nat} {bs : Bs} {w' : World} {a6 : Option Addr} {n6 c6 : Nat} {u1 u2 u3 u4 u5 u7 u8 u9 u10 u11 u12 u13 u14 u15 u16 u17 u18 u19 u20 u21 u22 u23 u24 u25 u26 u27 u28 u29 u30 u31 u32 u33 u34 u35 u36 u37 u38 u39 u40 u41 u42 u43 u44 u45 u46 u47 u48 u49 u50 u51 u52 u53 u54 u55 u56 u57 u58 u59 u60 u61 u62 u63 u64 u65 u66 u67 u68 u69 u70 u71 u72 u73 u74 u75 u76 u77 u78 u79 : Value} (hb : Below w.heap.size w w') (hno : ¬ 65536 < bs.length ∧ ∀ ms, wrongR ms = 0 → archB ms ≠ bs) (h6 : n6 ≤ 100000) : JB w a n cap bs ⟨#[.slice (some a) n cap, u1, u2, u3, u4, u5, .slice a6 n6 c6, u7, u8, u9, u10, u11, u12, u13, u14, u15, u16, u17, u18, u19, u20, u21, u22, u23, u24, u25, u26, u27, u28, u29, u30, u31, u32, u33, u34, u35, u36, u37, u38, u39, u40, u41, u42, u43, u44, u45, u46, u47, u48, u49, u50, u51, u52, u53, u54, u55, u56, u57, u58, u59, u60, u61, u62, u63, u64, u65, u66, u67, u68, u69, u70, u71, u72, u73, u74, u75, u76, u77, u78, u79], []⟩ w' := ⟨hb, hno, _, _, _, _, _, _, _, _, _, _, _, _, _, _, _, _, _, _, _, _, _, _, _, _, _, _, _, _, _, _, _, _, _, _, _, _, _, _, _, _, _, _, _, _, _, _, _, _, _, _, _, _, _, _, _, _, _, _, _, _, _, _, _, _, _, _, _, _, _, _, _, _, _, _, _, _, _, _, _, _, _, h6, rfl⟩
def LI (w : World) (bs : Bs) (gk : Nat) (l t r : Value) (wr : World) : Prop := Below w.heap.size w wr ∧ ∃ ms tb rs, Bld wr w.heap.size l ms ∧ Tbs w t tb ∧ Bsl w r rs ∧ scanP gk tb rs (ms.map tE) = scanR bs ∧ rs.length ≤ 60 * gk ∧ rs.length ≤ 65536 ∧ tb.length ≤ 65536 ∧ ms.length + gk ≤ 5001 ∧ ∀ m ∈ ms, m.name.length ≤ 70000 ∧ m.data.length ≤ 70000
theorem prefix_len {bs : Bs} (h : Lib.hasPrefix bs magicB = true) : 8 ≤ bs.length := by
 have := (List.isPrefixOf_iff_prefix.1 h).length_le
 exact this
theorem bsl_drop {w : World} {a : Addr} {n cap : Nat} {bs : Bs} (h : Rds w (.slice (some a) n cap) bs) (hn : n = bs.length) (hcap : n ≤ cap) (h8 : 8 ≤ n) : Bsl w (.slice (some ⟨a.block, a.off + 8, none⟩) (n - 8) (cap - 8)) (bs.drop 8) := by
 refine ⟨_, _, _, rfl, by rw [List.length_drop]; omega, by omega, ?_⟩
 have := rds_part h hn 8 (n - 8) (cap - 8) (by omega)
 rw [addr_pos a 8 (by decide), List.take_of_length_le (by rw [List.length_drop]; omega)] at this
 exact this
theorem ej_ret {l : Nat} {J : Act → World → Prop} {Q : Exit → Act → World → Prop} {a : Act} {w : World} (h : Q .ret a w) : Exit.jump l J Q .ret a w := h
set_option maxRecDepth 100000 in
set_option maxHeartbeats 4000000 in
theorem parsed_bsl (a : Addr) (n cap : Nat) (bs : Bs) (w : World) (hR : Rds w (.slice (some a) n cap) bs) (hn : n = bs.length) (hcap : n ≤ cap) (hl : n ≤ 100000) (hE : Env w) (hS : EvS w) (hM : Mx w) (h3 : 9 < w.heap.size) :
  Calls Tryz.prog 115 #[.slice (some a) n cap] w fun r w' => Below w.heap.size w w' ∧ PdR w.heap.size bs w' r := by
 have hcv := Lib.run_convert_bytes_const (P := Tryz.prog) w 57 5 #[.int .u8 33, .int .u8 60, .int .u8 97, .int .u8 114, .int .u8 99, .int .u8 104, .int .u8 62, .int .u8 10] 8 8 Tryz.underlying57 Tryz.underlying5
 have HN := hide' hn
 clear hn
 go_enter Tryz.func115, Tryz.ntmps115
 go_wp2
 refine wp_scope_jumps 0 (JB w a n cap bs) (fun _ _ => 0) rfl ?_ ?_
 ·by_cases hlong : 65536 < n
  ·have HNo := hide' (no_long (bs := bs) (by have := HN.out; omega))
   have g1 : (65536 : Int) < (n : Int) := by omega
   clear hcv
   go_wp2
   simp only [Exit.jump]
   go_ret2
   exact ⟨(Below.refl _ _).alloc (Nat.le_refl _) _, .inr ⟨_, 2, rfl, .inl ⟨rfl, by have := HN.out; omega⟩, .inr ⟨by decide, _, _, rfl, alloc_new _ _⟩, HNo.out⟩⟩
  ·have HNL : Hid (¬ 65536 < bs.length) := by have := HN.out; show ¬ _; omega
   have g1 : ¬ (65536 : Int) < (n : Int) := by omega
   have hb1 : Below w.heap.size w (w.alloc (.cells #[.int .u8 33, .int .u8 60, .int .u8 97, .int .u8 114, .int .u8 99, .int .u8 104, .int .u8 62, .int .u8 10] 5 (8, 9))) := (Below.refl _ _).alloc (Nat.le_refl _) _
   have qp := Tryz.bytes_HasPrefix_all (some a) (some ⟨w.heap.size, 0, none⟩) n cap 8 8 (nums bs) (nums magicB) _ (by unfold nums; rw [List.length_map]; exact HN.out.symm) rfl hcap (bytesIn_of (hR.below hb1) HN.out) (magic_in w)
   rw [bytesOf_nums, bytesOf_nums] at qp
   have HB1 := hide' hb1
   clear hb1
   cases hp : Lib.hasPrefix bs magicB with
   | false =>
    rw [hp] at qp
    have hno := none_arch (bs := bs) (by unfold scanR; rw [if_neg (by rw [hp]; decide)])
    have HNo := hide' (And.intro HNL.out hno)
    clear hno hp
    go_wp2_with (go_at_call 142; refine qp.mono ?_; rintro r w1 ⟨rfl, rfl⟩)
    go_step3
    exact ⟨rfl, jb_intro HB1.out HNo.out hl⟩
   | true =>
    rw [hp] at qp
    have h8 : 8 ≤ n := by have := prefix_len hp; have := HN.out; omega
    have hsc : scanP 5001 [] (bs.drop 8) [] = scanR bs := by unfold scanR; rw [if_pos hp]
    have HSc := hide' hsc
    clear hsc hp
    go_wp2_with fail
    refine qp.mono ?_
    rintro r w1 ⟨rfl, rfl⟩
    dsimp only
    clear qp hcv
    obtain ⟨W1, hW1⟩ : ∃ W, W = w.alloc (.cells #[.int .u8 33, .int .u8 60, .int .u8 97, .int .u8 114, .int .u8 99, .int .u8 104, .int .u8 62, .int .u8 10] 5 (8, 9)) := ⟨_, rfl⟩
    rw [← hW1] at HB1 ⊢
    clear hW1
    have g8 : (8 : Int) ≤ (n : Int) := by omega
    have g9 : (8 : Int) ≤ (cap : Int) := by omega
    by_cases hc8 : cap = 8
    ·have hn8 : n = 8 := by omega
     have hd8 : Bsl w (.slice (some a) (n - 8) 0) (bs.drop 8) := by
      have e : bs.drop 8 = [] := List.length_eq_zero_iff.1 (by rw [List.length_drop, ← HN.out, hn8])
      rw [e, hn8]
      exact ⟨_, _, _, rfl, rfl, Nat.le_refl _, rds_empty _ _ _⟩
     have HD8 := hide' hd8
     clear hd8 hn8
     go_wp2_with fail
     go_loopg [4, 5, 6, 7, 8, 9, 10, 11] 5001 (fun gk l t r _ _ _ _ _ wr => LI w bs gk l t r wr)
     case atStart => exact ⟨HB1.out, [], [], _, Bld.nil _ _, .inl ⟨rfl, rfl⟩, HD8.out, HSc.out, by rw [List.length_drop]; have := HN.out; omega, by rw [List.length_drop]; have := HN.out; omega, Nat.zero_le _, Nat.le_refl _, fun m hm => (by cases hm)⟩
     obtain ⟨hBe, ms, tb, rs, hbl, hT, hB, hsc, hk1, hk2, htb, hmk, hds⟩ := hrel
     obtain ⟨ra, rn, rc, hrv, hrn, hrc, hrr⟩ := hB
     subst hrv
     obtain ⟨la, lc, hlv⟩ := hbl.form
     subst hlv
     have hml : ms.length ≤ 5001 := by omega
     have hs0 := hBe.size
     clear HD8 HSc HB1 g8 g9 hc8
     by_cases hz : rn = 0
     ·subst hz
      have hrs : rs = [] := List.length_eq_zero_iff.1 hrn.symm
      have hsc' : scanR bs = some (ms.map tE) := by rw [← hsc, hrs, scan_end]
      have hEr := hE.keep hBe (by omega)
      have qw := written_any (.slice la ms.length lc) ms wr hbl.msAt.mems (fine_small hml hds) hEr (by omega)
      have HK := hide' (And.intro hBe (And.intro hbl (And.intro hsc' hR)))
      clear hBe hbl hT hrr hsc hk1 hk2 hmk hds hrn hrc hR hE hS hM hEr hsc' hrs htb
      go_wp2_with fail
      refine qw.mono ?_
      rintro r w2 ⟨hb2, hwr⟩
      have hs2 := hb2.size
      have HB2 := hide' (HK.out.1.trans (hb2.mono hs0))
      have HMs := hide' ((HK.out.2.1.below hb2).msAt)
      clear qw
      rcases hwr with ⟨h0, v, rfl, hdat, hown⟩ | ⟨h0, e, rfl, he⟩
      ·obtain ⟨va, vn, vc, hv⟩ := hdat.form
       subst hv
       have qe := Tryz.bytes_Equal (.slice va vn vc) (.slice (some a) n cap) (nums (archB ms)) (nums bs) w2 (by unfold nums; rw [nums_mk]; exact rds_str hdat.rds) (by unfold nums; rw [nums_mk]; exact rds_str (HK.out.2.2.2.below HB2.out))
       rw [bytesOf_nums, bytesOf_nums] at qe
       have H0 := hide' h0
       clear h0 hdat hown hb2
       by_cases hab : archB ms = bs
       ·rw [show (archB ms == bs) = true from beq_iff_eq.2 hab] at qe
        have HA := hide' hab
        clear hab
        go_wp2_with (go_at_call 146; refine qe.mono ?_; rintro r w3 ⟨rfl, rfl⟩)
        refine ej_ret ?_
        go_ret2
        exact ⟨HB2.out, .inl ⟨_, ms, rfl, HMs.out, H0.out, HA.out, HK.out.2.2.1⟩⟩
       ·rw [show (archB ms == bs) = false from beq_eq_false_iff_ne.2 hab] at qe
        have HNo := hide' (And.intro HNL.out (no_other HK.out.2.2.1 (.inr hab)))
        clear hab
        go_wp2_with (go_at_call 146; refine qe.mono ?_; rintro r w3 ⟨rfl, rfl⟩)
        refine wp_label ?_
        simp only [Exit.then]
        go_wp2_with fail
        refine ej_ret ?_
        go_ret2
        exact ⟨HB2.out.alloc (by omega) _, .inr ⟨_, 20, rfl, .inr ⟨rfl, HNo.out.1⟩, .inr ⟨by decide, _, _, rfl, alloc_new _ _⟩, HNo.out.2⟩⟩
      ·have HNo := hide' (And.intro HNL.out (no_other HK.out.2.2.1 (.inl h0)))
       rcases he with ⟨hk0, _⟩ | ⟨_, pb, p, rfl, hpb⟩
       ·exact absurd hk0 h0
       ·clear h0 hpb hb2
        go_wp2_with fail
        refine wp_label ?_
        simp only [Exit.then]
        go_wp2_with fail
        refine ej_ret ?_
        go_ret2
        exact ⟨HB2.out.alloc (by omega) _, .inr ⟨_, 20, rfl, .inr ⟨rfl, HNo.out.1⟩, .inr ⟨by decide, _, _, rfl, alloc_new _ _⟩, HNo.out.2⟩⟩
     ·cases gk with
      | zero => omega
      | succ gk' =>
      have hne : rs ≠ [] := fun e => hz (by rw [hrn, e]; rfl)
      have gz : (0 : Int) < (rn : Int) := by omega
      have hl6 : rn ≤ 100000 := by omega
      have hEr := hE.keep hBe (by omega)
      have hSr := hS.below hBe (by omega)
      have hMr := hM.below hBe (by omega)
      have qc := cut_any (.slice (some ra) rn rc) rs wr ⟨ra, rn, rc, rfl, hrn, hrc, hrr.below hBe⟩ hEr hSr (by omega) (by omega)
      have HK := hide' (And.intro hBe (And.intro hbl (And.intro hT (And.intro hrr (And.intro hsc (And.intro hk1 (And.intro hk2 (And.intro hmk hds))))))))
      have HK2 := hide' (And.intro hrn (And.intro hrc (And.intro hne (And.intro hR (And.intro hSr hMr)))))
      clear hBe hbl hT hrr hsc hk1 hk2 hmk hds hrn hrc hne hR hSr hMr hE hS hM hEr
      go_wp2_with fail
      refine qc.mono ?_
      rintro r w2 ⟨hb2, hcr⟩
      clear qc
      unfold CutR at hcr
      have hs2 := hb2.size
      have HB2 := hide' (HK.out.1.trans (hb2.mono hs0))
      cases hcp : cutP rs with
      | none =>
       rw [hcp] at hcr
       subst hcr
       have HNo := hide' (And.intro HNL.out (none_arch (bs := bs) (HK.out.2.2.2.2.1.symm.trans (scan_none HK2.out.2.2.1 hcp))))
       clear hcp
       go_wp2_with fail
       go_step3
       exact ⟨rfl, jb_intro (HB2.out.alloc (by omega) _) HNo.out hl6⟩
      | some p =>
       obtain ⟨c0, c1, x, y⟩ := p
       rw [hcp] at hcr
       obtain ⟨c2, c3, c4, c5, dv, bv, rfl, hpart⟩ := hcr
       obtain ⟨⟨da, dn, dc, hdv, hdn, hdc, hdr⟩, ⟨ba, bn, bc, hbv, hbn, hbc, hbr⟩⟩ := hpart w HK.out.2.2.2.1
       subst hdv hbv
       obtain ⟨hl0, hl1, hlx, hly⟩ := cutP_some hcp
       have HC := hide' (And.intro hcp (And.intro hdn (And.intro hdc (And.intro hdr (And.intro hbn (And.intro hbc hbr))))))
       clear hcp hdn hdc hdr hbn hbc hbr hpart
       obtain ⟨W3, hW3⟩ : ∃ W, W = w2.alloc (.cells (pcCells c0 c1 c2 c3 c4 c5 (.slice (some da) dn dc)) 221) := ⟨_, rfl⟩
       have hb3 : Below w2.heap.size w2 W3 := by rw [hW3]; exact (Below.refl _ _).alloc (Nat.le_refl _) _
       have hs3 : W3.heap.size = w2.heap.size + 1 := by rw [hW3]; simp
       have HB3 := hide' (HB2.out.trans (hb3.mono (by omega)))
       have HBl3 := hide' ((HK.out.2.1.below hb2).below hb3)
       have HKK := hide' (And.intro HK.out.2.2.2.2.2 htb)
       by_cases hct : c0 = [47, 47]
       ·have hce : (c0 == [47, 47]) = true := beq_iff_eq.2 hct
        have HCt := hide' hct
        have HW := hide' hW3
        clear hct hW3 hb3 hb2
        go_wp2_with fail
        go_roundg gk'
        case rel =>
         have e := HW.out
         dsimp only [pcCells] at e
         rw [← e]
         obtain ⟨hcp, hdn, hdc, hdr, hbn, hbc, hbr⟩ := HC.out
         obtain ⟨⟨hk1, hk2, hmk, hds⟩, _⟩ := HKK.out
         exact ⟨HB3.out, ms, x, y, HBl3.out, .inr ⟨da, dn, dc, rfl, hdn, hdc, hdr⟩, ⟨ba, bn, bc, rfl, hbn, hbc, hbr⟩, (scan_tab HK2.out.2.2.1 hcp HCt.out).symm.trans HK.out.2.2.2.2.1, by omega, by omega, by omega, by omega, hds⟩
        case measure => omega
       ·have hce : (c0 == [47, 47]) = false := beq_eq_false_iff_ne.2 hct
        have HCt := hide' hct
        have qm := member_any c0 c1 c2 c3 c4 c5 (.slice (some da) dn dc) u5 x tb W3 ⟨da, dn, dc, rfl, HC.out.2.1, HC.out.2.2.1, HC.out.2.2.2.1.below HB3.out⟩ hl0 hl1 (HK2.out.2.2.2.2.1.below (hb2.trans (hb3.mono hs2)) (by omega)) (by omega) (by have := HKK.out.2; omega) (by have := HKK.out.1.2.1; omega) (HK.out.2.2.1.below HB3.out) (HK2.out.2.2.2.2.2.below (hb2.trans (hb3.mono hs2)) (by omega))
        have HW := hide' hW3
        clear hct hW3 hb3 hb2
        go_wp2_with fail
        have e := HW.out
        dsimp only [pcCells] at e
        rw [← e]
        clear e HW
        refine qm.mono ?_
        rintro r w4 ⟨hb4, hmb⟩
        clear qm
        have hs4 := hb4.size
        have HB4 := hide' (HB3.out.trans (hb4.mono (by omega)))
        have HBl4 := hide' (HBl3.out.below hb4)
        clear hb4
        unfold MbR at hmb
        cases hnm : nameP c0 tb with
        | none =>
         rw [hnm] at hmb
         have HNo := hide' (And.intro HNL.out (none_arch (bs := bs) (HK.out.2.2.2.2.1.symm.trans (scan_bad HK2.out.2.2.1 HC.out.1 HCt.out (.inl hnm)))))
         subst hmb
         clear hnm
         go_wp2_with fail
         go_step3
         exact ⟨rfl, jb_intro (HB4.out.alloc (by omega) _) HNo.out hl6⟩
        | some nm =>
         rw [hnm] at hmb
         cases hvl : valP c1 with
         | none =>
          rw [hvl] at hmb
          have HNo := hide' (And.intro HNL.out (none_arch (bs := bs) (HK.out.2.2.2.2.1.symm.trans (scan_bad HK2.out.2.2.1 HC.out.1 HCt.out (.inr hvl)))))
          subst hmb
          clear hnm hvl
          go_wp2_with fail
          go_step3
          exact ⟨rfl, jb_intro (HB4.out.alloc (by omega) _) HNo.out hl6⟩
         | some vl =>
          rw [hvl] at hmb
          obtain ⟨dv', rfl, hdat, hown⟩ := hmb
          obtain ⟨ea, en, ec, hev⟩ := hdat.form
          subst hev
          dsimp only
          have hnl := nameP_len hnm
          have HSc := hide' ((scan_mem HK2.out.2.2.1 HC.out.1 HCt.out hnm hvl).symm.trans HK.out.2.2.2.2.1)
          clear hnm hvl
          obtain ⟨w8, hw8⟩ : ∃ W, W = w4.alloc (.cells #[.string (mk nm), .int .i64 (vl : Int), .slice ea en ec] 86) := ⟨_, rfl⟩
          have hb8 : Below w4.heap.size w4 w8 := by rw [hw8]; exact (Below.refl _ _).alloc (Nat.le_refl _) _
          have hs8 : w8.heap.size = w4.heap.size + 1 := by rw [hw8]; simp
          have hb9 : Below w8.heap.size w8 (w8.alloc (.cells #[.string (mk nm), .int .i64 (vl : Int), .slice ea en ec] 86)) := (Below.refl _ _).alloc (Nat.le_refl _) _
          have hbl9 := (HBl4.out.below hb8).below hb9
          have hB9 := (HB4.out.trans (hb8.mono (by omega))).trans (hb9.mono (by omega))
          have hd9 := (hdat.kept (w' := w8) fun g hg => hb8.block g (hdat.lt g hg))
          have hd10 := hd9.kept fun g hg => hb9.block g (hd9.lt g hg)
          have hown9 := hbl9.own
          have hwz : w.heap.size ≤ (w8.alloc (.cells #[.string (mk nm), .int .i64 (vl : Int), .slice ea en ec] 86)).heap.size := by rw [size_alloc']; omega
          have HZ := hide' (And.intro hbl9 (And.intro hB9 (And.intro hd10 hown)))
          have HW8 := hide' hw8
          clear hb8 hb9 hbl9 hB9 hd9 hd10 hown hdat
          obtain ⟨inf, hi, hz0, hz1, hz2⟩ := info_parts info37
          have HS8 := hide' hs8
          clear hs8 hw8
          go_wp2_with (at_builtin; rw [← HW8.out, ← HS8.out]; refine wpList_append_lies _ rfl _ _ 81 rfl w.heap.size 86 inf _ 3 48 Tryz.underlying81 hi hz0 hz1 hz2 rfl (by decide) (.slice la ms.length lc) ms.length (flat ms) rfl hown9 ⟨w8.heap.size, 0, none⟩ 1 1 (cellsM ⟨nm, vl, .slice ea en ec, x⟩) rfl rfl (news_cells w8 ⟨nm, vl, .slice ea en ec, x⟩) (news_one _ _ _ _ _ _) (by decide) (by unfold maxLen; omega) (by omega) hwz _ rfl ?_)
          intro g9 c9 w9 hown10 hgr hat hlt
          obtain ⟨hbl9, hB9, hd10, hown⟩ := HZ.out
          have hbl10 := hbl9.step (x := ⟨nm, vl, .slice ea en ec, x⟩) hd10 (fun g hg => by have := hown g hg; omega) hgr hown10
          have hB10 := hbl9.grown hgr hB9 (Nat.le_refl _) hwz
          have HJ := hide' (And.intro hbl10 hB10)
          clear hbl9 hB9 hd10 hown hbl10 hB10 hown10 hgr hat hown9 hi hz0 hz1 hz2 HZ
          go_wp2_with fail
          go_roundg gk'
          case rel =>
           obtain ⟨hcp, hdn, hdc, hdr, hbn, hbc, hbr⟩ := HC.out
           obtain ⟨⟨hk1, hk2, hmk, hds⟩, _⟩ := HKK.out
           refine ⟨HJ.out.2, ms ++ [⟨nm, vl, .slice ea en ec, x⟩], tb, y, HJ.out.1, HK.out.2.2.1, ⟨ba, bn, bc, rfl, hbn, hbc, hbr⟩, ?_, by omega, by omega, HKK.out.2, by rw [List.length_append]; simp only [List.length_cons, List.length_nil]; omega, fun m hm => ?_⟩
           ·rw [List.map_append]; exact HSc.out
           ·rcases List.mem_append.1 hm with hm | hm
            ·exact hds m hm
            ·rw [List.mem_singleton.1 hm]
             have := HKK.out.2
             exact ⟨show List.length nm ≤ _ by omega, show List.length x ≤ _ by omega⟩
          case measure => omega
    ·have hd8 := bsl_drop hR HN.out hcap h8
     have HD8 := hide' hd8
     clear hd8
     go_wp2_with fail
     go_loopg [4, 5, 6, 7, 8, 9, 10, 11] 5001 (fun gk l t r _ _ _ _ _ wr => LI w bs gk l t r wr)
     case atStart => exact ⟨HB1.out, [], [], _, Bld.nil _ _, .inl ⟨rfl, rfl⟩, HD8.out, HSc.out, by rw [List.length_drop]; have := HN.out; omega, by rw [List.length_drop]; have := HN.out; omega, Nat.zero_le _, Nat.le_refl _, fun m hm => (by cases hm)⟩
     obtain ⟨hBe, ms, tb, rs, hbl, hT, hB, hsc, hk1, hk2, htb, hmk, hds⟩ := hrel
     obtain ⟨ra, rn, rc, hrv, hrn, hrc, hrr⟩ := hB
     subst hrv
     obtain ⟨la, lc, hlv⟩ := hbl.form
     subst hlv
     have hml : ms.length ≤ 5001 := by omega
     have hs0 := hBe.size
     clear HD8 HSc HB1 g8 g9 hc8
     by_cases hz : rn = 0
     ·subst hz
      have hrs : rs = [] := List.length_eq_zero_iff.1 hrn.symm
      have hsc' : scanR bs = some (ms.map tE) := by rw [← hsc, hrs, scan_end]
      have hEr := hE.keep hBe (by omega)
      have qw := written_any (.slice la ms.length lc) ms wr hbl.msAt.mems (fine_small hml hds) hEr (by omega)
      have HK := hide' (And.intro hBe (And.intro hbl (And.intro hsc' hR)))
      clear hBe hbl hT hrr hsc hk1 hk2 hmk hds hrn hrc hR hE hS hM hEr hsc' hrs htb
      go_wp2_with fail
      refine qw.mono ?_
      rintro r w2 ⟨hb2, hwr⟩
      have hs2 := hb2.size
      have HB2 := hide' (HK.out.1.trans (hb2.mono hs0))
      have HMs := hide' ((HK.out.2.1.below hb2).msAt)
      clear qw
      rcases hwr with ⟨h0, v, rfl, hdat, hown⟩ | ⟨h0, e, rfl, he⟩
      ·obtain ⟨va, vn, vc, hv⟩ := hdat.form
       subst hv
       have qe := Tryz.bytes_Equal (.slice va vn vc) (.slice (some a) n cap) (nums (archB ms)) (nums bs) w2 (by unfold nums; rw [nums_mk]; exact rds_str hdat.rds) (by unfold nums; rw [nums_mk]; exact rds_str (HK.out.2.2.2.below HB2.out))
       rw [bytesOf_nums, bytesOf_nums] at qe
       have H0 := hide' h0
       clear h0 hdat hown hb2
       by_cases hab : archB ms = bs
       ·rw [show (archB ms == bs) = true from beq_iff_eq.2 hab] at qe
        have HA := hide' hab
        clear hab
        go_wp2_with (go_at_call 146; refine qe.mono ?_; rintro r w3 ⟨rfl, rfl⟩)
        refine ej_ret ?_
        go_ret2
        exact ⟨HB2.out, .inl ⟨_, ms, rfl, HMs.out, H0.out, HA.out, HK.out.2.2.1⟩⟩
       ·rw [show (archB ms == bs) = false from beq_eq_false_iff_ne.2 hab] at qe
        have HNo := hide' (And.intro HNL.out (no_other HK.out.2.2.1 (.inr hab)))
        clear hab
        go_wp2_with (go_at_call 146; refine qe.mono ?_; rintro r w3 ⟨rfl, rfl⟩)
        refine wp_label ?_
        simp only [Exit.then]
        go_wp2_with fail
        refine ej_ret ?_
        go_ret2
        exact ⟨HB2.out.alloc (by omega) _, .inr ⟨_, 20, rfl, .inr ⟨rfl, HNo.out.1⟩, .inr ⟨by decide, _, _, rfl, alloc_new _ _⟩, HNo.out.2⟩⟩
      ·have HNo := hide' (And.intro HNL.out (no_other HK.out.2.2.1 (.inl h0)))
       rcases he with ⟨hk0, _⟩ | ⟨_, pb, p, rfl, hpb⟩
       ·exact absurd hk0 h0
       ·clear h0 hpb hb2
        go_wp2_with fail
        refine wp_label ?_
        simp only [Exit.then]
        go_wp2_with fail
        refine ej_ret ?_
        go_ret2
        exact ⟨HB2.out.alloc (by omega) _, .inr ⟨_, 20, rfl, .inr ⟨rfl, HNo.out.1⟩, .inr ⟨by decide, _, _, rfl, alloc_new _ _⟩, HNo.out.2⟩⟩
     ·cases gk with
      | zero => omega
      | succ gk' =>
      have hne : rs ≠ [] := fun e => hz (by rw [hrn, e]; rfl)
      have gz : (0 : Int) < (rn : Int) := by omega
      have hl6 : rn ≤ 100000 := by omega
      have hEr := hE.keep hBe (by omega)
      have hSr := hS.below hBe (by omega)
      have hMr := hM.below hBe (by omega)
      have qc := cut_any (.slice (some ra) rn rc) rs wr ⟨ra, rn, rc, rfl, hrn, hrc, hrr.below hBe⟩ hEr hSr (by omega) (by omega)
      have HK := hide' (And.intro hBe (And.intro hbl (And.intro hT (And.intro hrr (And.intro hsc (And.intro hk1 (And.intro hk2 (And.intro hmk hds))))))))
      have HK2 := hide' (And.intro hrn (And.intro hrc (And.intro hne (And.intro hR (And.intro hSr hMr)))))
      clear hBe hbl hT hrr hsc hk1 hk2 hmk hds hrn hrc hne hR hSr hMr hE hS hM hEr
      go_wp2_with fail
      refine qc.mono ?_
      rintro r w2 ⟨hb2, hcr⟩
      clear qc
      unfold CutR at hcr
      have hs2 := hb2.size
      have HB2 := hide' (HK.out.1.trans (hb2.mono hs0))
      cases hcp : cutP rs with
      | none =>
       rw [hcp] at hcr
       subst hcr
       have HNo := hide' (And.intro HNL.out (none_arch (bs := bs) (HK.out.2.2.2.2.1.symm.trans (scan_none HK2.out.2.2.1 hcp))))
       clear hcp
       go_wp2_with fail
       go_step3
       exact ⟨rfl, jb_intro (HB2.out.alloc (by omega) _) HNo.out hl6⟩
      | some p =>
       obtain ⟨c0, c1, x, y⟩ := p
       rw [hcp] at hcr
       obtain ⟨c2, c3, c4, c5, dv, bv, rfl, hpart⟩ := hcr
       obtain ⟨⟨da, dn, dc, hdv, hdn, hdc, hdr⟩, ⟨ba, bn, bc, hbv, hbn, hbc, hbr⟩⟩ := hpart w HK.out.2.2.2.1
       subst hdv hbv
       obtain ⟨hl0, hl1, hlx, hly⟩ := cutP_some hcp
       have HC := hide' (And.intro hcp (And.intro hdn (And.intro hdc (And.intro hdr (And.intro hbn (And.intro hbc hbr))))))
       clear hcp hdn hdc hdr hbn hbc hbr hpart
       obtain ⟨W3, hW3⟩ : ∃ W, W = w2.alloc (.cells (pcCells c0 c1 c2 c3 c4 c5 (.slice (some da) dn dc)) 221) := ⟨_, rfl⟩
       have hb3 : Below w2.heap.size w2 W3 := by rw [hW3]; exact (Below.refl _ _).alloc (Nat.le_refl _) _
       have hs3 : W3.heap.size = w2.heap.size + 1 := by rw [hW3]; simp
       have HB3 := hide' (HB2.out.trans (hb3.mono (by omega)))
       have HBl3 := hide' ((HK.out.2.1.below hb2).below hb3)
       have HKK := hide' (And.intro HK.out.2.2.2.2.2 htb)
       by_cases hct : c0 = [47, 47]
       ·have hce : (c0 == [47, 47]) = true := beq_iff_eq.2 hct
        have HCt := hide' hct
        have HW := hide' hW3
        clear hct hW3 hb3 hb2
        go_wp2_with fail
        go_roundg gk'
        case rel =>
         have e := HW.out
         dsimp only [pcCells] at e
         rw [← e]
         obtain ⟨hcp, hdn, hdc, hdr, hbn, hbc, hbr⟩ := HC.out
         obtain ⟨⟨hk1, hk2, hmk, hds⟩, _⟩ := HKK.out
         exact ⟨HB3.out, ms, x, y, HBl3.out, .inr ⟨da, dn, dc, rfl, hdn, hdc, hdr⟩, ⟨ba, bn, bc, rfl, hbn, hbc, hbr⟩, (scan_tab HK2.out.2.2.1 hcp HCt.out).symm.trans HK.out.2.2.2.2.1, by omega, by omega, by omega, by omega, hds⟩
        case measure => omega
       ·have hce : (c0 == [47, 47]) = false := beq_eq_false_iff_ne.2 hct
        have HCt := hide' hct
        have qm := member_any c0 c1 c2 c3 c4 c5 (.slice (some da) dn dc) u5 x tb W3 ⟨da, dn, dc, rfl, HC.out.2.1, HC.out.2.2.1, HC.out.2.2.2.1.below HB3.out⟩ hl0 hl1 (HK2.out.2.2.2.2.1.below (hb2.trans (hb3.mono hs2)) (by omega)) (by omega) (by have := HKK.out.2; omega) (by have := HKK.out.1.2.1; omega) (HK.out.2.2.1.below HB3.out) (HK2.out.2.2.2.2.2.below (hb2.trans (hb3.mono hs2)) (by omega))
        have HW := hide' hW3
        clear hct hW3 hb3 hb2
        go_wp2_with fail
        have e := HW.out
        dsimp only [pcCells] at e
        rw [← e]
        clear e HW
        refine qm.mono ?_
        rintro r w4 ⟨hb4, hmb⟩
        clear qm
        have hs4 := hb4.size
        have HB4 := hide' (HB3.out.trans (hb4.mono (by omega)))
        have HBl4 := hide' (HBl3.out.below hb4)
        clear hb4
        unfold MbR at hmb
        cases hnm : nameP c0 tb with
        | none =>
         rw [hnm] at hmb
         have HNo := hide' (And.intro HNL.out (none_arch (bs := bs) (HK.out.2.2.2.2.1.symm.trans (scan_bad HK2.out.2.2.1 HC.out.1 HCt.out (.inl hnm)))))
         subst hmb
         clear hnm
         go_wp2_with fail
         go_step3
         exact ⟨rfl, jb_intro (HB4.out.alloc (by omega) _) HNo.out hl6⟩
        | some nm =>
         rw [hnm] at hmb
         cases hvl : valP c1 with
         | none =>
          rw [hvl] at hmb
          have HNo := hide' (And.intro HNL.out (none_arch (bs := bs) (HK.out.2.2.2.2.1.symm.trans (scan_bad HK2.out.2.2.1 HC.out.1 HCt.out (.inr hvl)))))
          subst hmb
          clear hnm hvl
          go_wp2_with fail
          go_step3
          exact ⟨rfl, jb_intro (HB4.out.alloc (by omega) _) HNo.out hl6⟩
         | some vl =>
          rw [hvl] at hmb
          obtain ⟨dv', rfl, hdat, hown⟩ := hmb
          obtain ⟨ea, en, ec, hev⟩ := hdat.form
          subst hev
          dsimp only
          have hnl := nameP_len hnm
          have HSc := hide' ((scan_mem HK2.out.2.2.1 HC.out.1 HCt.out hnm hvl).symm.trans HK.out.2.2.2.2.1)
          clear hnm hvl
          obtain ⟨w8, hw8⟩ : ∃ W, W = w4.alloc (.cells #[.string (mk nm), .int .i64 (vl : Int), .slice ea en ec] 86) := ⟨_, rfl⟩
          have hb8 : Below w4.heap.size w4 w8 := by rw [hw8]; exact (Below.refl _ _).alloc (Nat.le_refl _) _
          have hs8 : w8.heap.size = w4.heap.size + 1 := by rw [hw8]; simp
          have hb9 : Below w8.heap.size w8 (w8.alloc (.cells #[.string (mk nm), .int .i64 (vl : Int), .slice ea en ec] 86)) := (Below.refl _ _).alloc (Nat.le_refl _) _
          have hbl9 := (HBl4.out.below hb8).below hb9
          have hB9 := (HB4.out.trans (hb8.mono (by omega))).trans (hb9.mono (by omega))
          have hd9 := (hdat.kept (w' := w8) fun g hg => hb8.block g (hdat.lt g hg))
          have hd10 := hd9.kept fun g hg => hb9.block g (hd9.lt g hg)
          have hown9 := hbl9.own
          have hwz : w.heap.size ≤ (w8.alloc (.cells #[.string (mk nm), .int .i64 (vl : Int), .slice ea en ec] 86)).heap.size := by rw [size_alloc']; omega
          have HZ := hide' (And.intro hbl9 (And.intro hB9 (And.intro hd10 hown)))
          have HW8 := hide' hw8
          clear hb8 hb9 hbl9 hB9 hd9 hd10 hown hdat
          obtain ⟨inf, hi, hz0, hz1, hz2⟩ := info_parts info37
          have HS8 := hide' hs8
          clear hs8 hw8
          go_wp2_with (at_builtin; rw [← HW8.out, ← HS8.out]; refine wpList_append_lies _ rfl _ _ 81 rfl w.heap.size 86 inf _ 3 48 Tryz.underlying81 hi hz0 hz1 hz2 rfl (by decide) (.slice la ms.length lc) ms.length (flat ms) rfl hown9 ⟨w8.heap.size, 0, none⟩ 1 1 (cellsM ⟨nm, vl, .slice ea en ec, x⟩) rfl rfl (news_cells w8 ⟨nm, vl, .slice ea en ec, x⟩) (news_one _ _ _ _ _ _) (by decide) (by unfold maxLen; omega) (by omega) hwz _ rfl ?_)
          intro g9 c9 w9 hown10 hgr hat hlt
          obtain ⟨hbl9, hB9, hd10, hown⟩ := HZ.out
          have hbl10 := hbl9.step (x := ⟨nm, vl, .slice ea en ec, x⟩) hd10 (fun g hg => by have := hown g hg; omega) hgr hown10
          have hB10 := hbl9.grown hgr hB9 (Nat.le_refl _) hwz
          have HJ := hide' (And.intro hbl10 hB10)
          clear hbl9 hB9 hd10 hown hbl10 hB10 hown10 hgr hat hown9 hi hz0 hz1 hz2 HZ
          go_wp2_with fail
          go_roundg gk'
          case rel =>
           obtain ⟨hcp, hdn, hdc, hdr, hbn, hbc, hbr⟩ := HC.out
           obtain ⟨⟨hk1, hk2, hmk, hds⟩, _⟩ := HKK.out
           refine ⟨HJ.out.2, ms ++ [⟨nm, vl, .slice ea en ec, x⟩], tb, y, HJ.out.1, HK.out.2.2.1, ⟨ba, bn, bc, rfl, hbn, hbc, hbr⟩, ?_, by omega, by omega, HKK.out.2, by rw [List.length_append]; simp only [List.length_cons, List.length_nil]; omega, fun m hm => ?_⟩
           ·rw [List.map_append]; exact HSc.out
           ·rcases List.mem_append.1 hm with hm | hm
            ·exact hds m hm
            ·rw [List.mem_singleton.1 hm]
             have := HKK.out.2
             exact ⟨show List.length nm ≤ _ by omega, show List.length x ≤ _ by omega⟩
          case measure => omega
 ·rintro a' w' ⟨hB, hno, hrest⟩
  obtain ⟨a6, n6, c6, u1, u2, u3, u4, u5, u7, u8, u9, u10, u11, u12, u13, u14, u15, u16, u17, u18, u19, u20, u21, u22, u23, u24, u25, u26, u27, u28, u29, u30, u31, u32, u33, u34, u35, u36, u37, u38, u39, u40, u41, u42, u43, u44, u45, u46, u47, u48, u49, u50, u51, u52, u53, u54, u55, u56, u57, u58, u59, u60, u61, u62, u63, u64, u65, u66, u67, u68, u69, u70, u71, u72, u73, u74, u75, u76, u77, u78, u79, h6, rfl⟩ := hrest
  have HNo := hide' hno
  clear hno
  go_wp2
  simp only [Exit.jump]
  go_ret2
  exact ⟨hB.alloc hB.size _, .inr ⟨_, 20, rfl, .inr ⟨rfl, HNo.out.1⟩, .inr ⟨by decide, _, _, rfl, alloc_new _ _⟩, HNo.out.2⟩⟩
end Go.Proofs.YtabmnkddmdffkaaGreatDoor.Arc
