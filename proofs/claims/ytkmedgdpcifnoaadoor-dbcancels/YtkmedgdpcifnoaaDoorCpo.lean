/- The contract of db.copiesOf. -/
import Derived.Test.YtkmedgdpcifnoaaDoorRl
import Derived.Deep.QuietTactic
import Derived.Deep.Cut
import Derived.Deep.CutBlock
namespace Go.Proofs.YtkmedgdpcifnoaaDoor
open Go.RowKit Go.Shelf

/-- the same rules -/
def SameR (L L' : List Rx) : Prop := L'.map (·.r) = L.map (·.r)
theorem clone_str (x : ByteArray) (w : World) (h : x.size ≤ 100000000) : Calls Tryd.prog 52 #[.string x] w fun e w' => e = .returned (.string x) ∧ Below w.heap.size w w' := clone_any x w (by omega)
theorem new_eleven (W : World) (v0 v1 v2 v3 v4 v5 v6 v7 v8 v9 v10 : Value) (t : TypeId) : ∀ j u, [v0, v1, v2, v3, v4, v5, v6, v7, v8, v9, v10][j]? = some u → (W.alloc (.cells #[v0, v1, v2, v3, v4, v5, v6, v7, v8, v9, v10] t)).cell? ((⟨W.heap.size, 0, none⟩ : Addr).add j) = some u := by
  intro j u hj
  rw [Addr.add_lit, Nat.zero_add, Lib.cell_of_heap (heap_alloc_new W _)]
  exact (by simpa using hj)
/-- a rule more in a row of the call's own -/
theorem wpList_addR {ops : Array Oper} {rest : List Oper} {o : Oper} {a : Act} {Q : Exit → Act → World → Prop} {w : World} {B m : Nat} {L : List Rx} {la : Option Addr} {lc : Nat} (hm : m = L.length) (hgd : o.guard = none) (s x : Operand)
    (ho : o.op = .call { callee := .builtin .append, args := #[s, x], argTypes := #[22, 22] })
    (hq : OwnR w B (.slice la m lc) L) (y : Rx) (v0 v1 v2 v3 v4 v5 v6 v7 v8 v9 v10 : Value) (hyc : rxC y = [v0, v1, v2, v3, v4, v5, v6, v7, v8, v9, v10]) (hy : RxO w B y) (hL : L.length ≤ 1000000) (hB : B ≤ w.heap.size)
    (hs : a.eval s = .slice la m lc) (hx : a.eval x = .slice (some ⟨w.heap.size, 0, none⟩) 1 1)
    (h : ∀ g cap w', OwnR w' B (.slice (some ⟨g, 0, none⟩) (m + 1) cap) (L ++ [y]) → Below B w w' → wpList Tryd.prog ops Q rest (a.put o.dst (.slice (some ⟨g, 0, none⟩) (m + 1) cap)) w') :
    wpList Tryd.prog ops Q (o :: rest) a (w.alloc (.cells #[v0, v1, v2, v3, v4, v5, v6, v7, v8, v9, v10] 43)) := by
  obtain ⟨inf, hi, hz0, hz1, hz2⟩ := info_parts info43
  subst hm
  have hb : Below w.heap.size w (w.alloc (.cells #[v0, v1, v2, v3, v4, v5, v6, v7, v8, v9, v10] 43)) := (Below.refl _ w).alloc (Nat.le_refl _) _
  have hone : ∀ u ∈ [v0, v1, v2, v3, v4, v5, v6, v7, v8, v9, v10], u.oneCell' = true := by
    rw [← hyc]
    obtain ⟨a0, c0, e0⟩ := own_len hy.ts
    obtain ⟨a1, c1, e1⟩ := own_len hy.ps
    obtain ⟨a2, c2, e2⟩ := own_len hy.os
    obtain ⟨a3, c3, e3⟩ := own_len hy.rc
    intro u hu
    simp only [rxC, ruC, e0, e1, e2, e3, List.mem_cons, List.not_mem_nil, or_false] at hu
    rcases hu with rfl | rfl | rfl | rfl | rfl | rfl | rfl | rfl | rfl | rfl | rfl <;> rfl
  refine wpList_append_lies _ hgd s x 22 ho B 43 inf _ 11 152 Tryd.underlying22 hi hz0 hz1 hz2 rfl (by decide) (.slice la L.length lc) L.length (flatR L) hs (own_below hq.row hb) ⟨w.heap.size, 0, none⟩ 1 1 [v0, v1, v2, v3, v4, v5, v6, v7, v8, v9, v10] hx rfl (new_eleven w v0 v1 v2 v3 v4 v5 v6 v7 v8 v9 v10 43) hone (by decide) (by unfold maxLen; omega) (by omega) (by simp; omega) _ rfl ?_
  intro g cap w1 ho1 hg hat hlt
  have key : ∀ {e size m : Nat} {v : Value} {xs : List Value}, w.ownsRow B e size v m xs → e ≠ 43 → w1.ownsRow B e size v m xs := fun hr he => row_grow hr hq.row he hg
  have keyR : ∀ z, RxO w B z → RxO w1 B z := fun z hz => ⟨key hz.ts (by decide), key hz.ps (by decide), key hz.os (by decide), key hz.rc (by decide)⟩
  refine h g cap w1 ⟨?_, fun z hz => ?_⟩ (app_below (Below.refl _ _) hB hq.row hg)
  · rw [List.length_append, flatR_snoc, hyc]
    exact ho1
  · rcases List.mem_append.1 hz with hz | hz
    · exact keyR z (hq.lists z hz)
    · obtain rfl : z = y := by simpa using hz
      exact keyR _ hy
set_option maxRecDepth 100000 in
set_option maxHeartbeats 4000000 in
theorem copiesOf_some (L : List Rx) (b off cap : Nat) (w : World) (hl : L.length ≤ 100000) (hb : b < w.heap.size) (hf : ∀ x ∈ L, FitR 100000000 x.r) (hS : ∀ x ∈ L, RxS w x) (hc : ∀ j, j < L.length → RuAt w b (off + j * 11) (L.getD j zeroRx)) :
    Calls Tryd.prog 29 #[.slice (some ⟨b, off, none⟩) L.length cap] w fun e w' => ∃ v, e = .returned v ∧ ∃ L', OwnR w' w.heap.size v L' ∧ SameR L L' ∧ Below w.heap.size w w' := by
  obtain ⟨i0, hi, hz0, hz1, hz2⟩ := info_parts info43
  go_enter Tryd.func29, Tryd.ntmps29
  go_wp2
  go_loopw [8, 3] (fun i l wr => ∃ (k : Nat) (L' : List Rx), k ≤ L.length ∧ i = .int .i64 k ∧ OwnR wr w.heap.size l L' ∧ L'.map (·.r) = (L.take k).map (·.r) ∧ Below w.heap.size w wr) (fun i _ _ => L.length - (intOf i).toNat)
  case atStart => exact ⟨0, [], Nat.zero_le _, rfl, OwnR.nil _ _, rfl, Below.refl _ _⟩
  case round =>
    obtain ⟨k, L', hk, rfl, hrow, hm, hB⟩ := hrel
    have hle : L'.length = k := by have := congrArg List.length hm; simp at this; omega
    obtain ⟨a1, c1, rfl⟩ := hrow.form
    rw [hle] at hrow ⊢
    by_cases hlt : k < L.length
    · have cc := (hc k hlt).block (hB.block b hb)
      have hmem : L.getD k zeroRx ∈ L := by rw [List.getD_eq_getElem?_getD, List.getElem?_eq_getElem hlt]; exact List.getElem_mem hlt
      have hx := hf _ hmem
      have hxs := (hS _ hmem).below hB
      have HT : Hid (∀ y : Rx, y.r = (L.getD k zeroRx).r → (L' ++ [y]).map (·.r) = (L.take (k + 1)).map (·.r)) := fun y hy => by
        rw [List.take_succ_eq_append_getElem hlt, List.map_append, List.map_append, hm, List.map_singleton, List.map_singleton, hy, List.getD_eq_getElem?_getD, List.getElem?_eq_getElem hlt]
        rfl
      generalize L.getD k zeroRx = x at cc hx hxs HT
      obtain ⟨⟨rts, rps, ros, rdbl, rpat, rter, rsta, rrcp, rhas, raga, rblt⟩, va, vb, vc, vd⟩ := x
      obtain ⟨q0, q1, q2, q3, q4, q5, q6, q7, q8, q9, q10⟩ := cc
      obtain ⟨s0, s1, s2, s3⟩ := hxs
      obtain ⟨f0, f1, f2, f3, n0, n1, n2, n3, n4, n5⟩ := hx
      simp only at q0 q1 q2 q3 q4 q5 q6 q7 q8 q9 q10 s0 s1 s2 s3 f0 f1 f2 f3 n0 n1 n2 n3 n4 n5 HT
      obtain ⟨aa, na, ca, rfl⟩ := s0.form3
      obtain ⟨ab, nb, cb, rfl⟩ := s1.form3
      obtain ⟨ac, nc, cc, rfl⟩ := s2.form3
      obtain ⟨ad, nd, cd, rfl⟩ := s3.form3
      have kA := fun W (hW : Below wr.heap.size wr W) => copies_any rts _ W f0 n0 (s0.below hW)
      have kB := fun W (hW : Below wr.heap.size wr W) => copies_any rps _ W f1 n1 (s1.below hW)
      have kC := fun W (hW : Below wr.heap.size wr W) => copies_any ros _ W f2 n2 (s2.below hW)
      have kD := fun W (hW : Below wr.heap.size wr W) => copies_any rrcp _ W f3 n3 (s3.below hW)
      have kS := fun W => clone_str (mk rsta) W (by rw [mk_size]; exact n4)
      have kG := fun W => clone_str (mk raga) W (by rw [mk_size]; exact n5)
      have hsz := hB.size
      have HR := hide' hrow
      have HM := hide' hm
      have HC := hide' hc
      have HF := hide' hf
      have HSS := hide' hS
      have HB := hide' hB
      have HLE := hide' hle
      have HBB := hide' hb
      clear hrow hm hc hf hS hmem hB hle s0 s1 s2 s3 f0 f1 f2 f3 n0 n1 n2 n3 n4 n5 hb
      obtain ⟨sta, hsta⟩ : ∃ sta, sta = mk rsta := ⟨_, rfl⟩
      obtain ⟨aga, haga⟩ : ∃ aga, aga = mk raga := ⟨_, rfl⟩
      rw [← hsta] at q6 kS
      rw [← haga] at q9 kG
      have HSTA := hide' hsta
      have HAGA := hide' haga
      clear hsta haga
      go_upto_region 5 with fail
      have hC : Bx11 (wr.alloc (.cells #[.slice aa na ca, .slice ab nb cb, .slice ac nc cc, .bool rdbl, .bool rpat, .bool rter, .string sta, .slice ad nd cd, .bool rhas, .string aga, .bool rblt] 43)) wr.heap.size (.slice aa na ca) (.slice ab nb cb) (.slice ac nc cc) (.bool rdbl) (.bool rpat) (.bool rter) (.string sta) (.slice ad nd cd) (.bool rhas) (.string aga) (.bool rblt) := bx11_at wr (.slice aa na ca) (.slice ab nb cb) (.slice ac nc cc) (.bool rdbl) (.bool rpat) (.bool rter) (.string sta) (.slice ad nd cd) (.bool rhas) (.string aga) (.bool rblt)
      have hB5 : Below wr.heap.size wr (wr.alloc (.cells #[.slice aa na ca, .slice ab nb cb, .slice ac nc cc, .bool rdbl, .bool rpat, .bool rter, .string sta, .slice ad nd cd, .bool rhas, .string aga, .bool rblt] 43)) := (Below.refl _ wr).alloc (Nat.le_refl _) _
      generalize wr.alloc (.cells #[.slice aa na ca, .slice ab nb cb, .slice ac nc cc, .bool rdbl, .bool rpat, .bool rter, .string sta, .slice ad nd cd, .bool rhas, .string aga, .bool rblt] 43) = W5 at hC hB5 ⊢
      clear q0 q1 q2 q3 q4 q5 q6 q7 q8 q9 q10
      refine wp_region_classX [10, 11, 12, 13, 14] (C := fun W => Bx11 W wr.heap.size (.slice aa na ca) (.slice ab nb cb) (.slice ac nc cc) (.bool rdbl) (.bool rpat) (.bool rter) (.string sta) (.slice ad nd cd) (.bool rhas) (.string aga) (.bool rblt)) (by kernel_rfl) ?_
      replace hC : Bx11 W5.drew wr.heap.size (.slice aa na ca) (.slice ab nb cb) (.slice ac nc cc) (.bool rdbl) (.bool rpat) (.bool rter) (.string sta) (.slice ad nd cd) (.bool rhas) (.string aga) (.bool rblt) := hC
      replace hB5 := hB5.drew
      (refine wpAnyX_take (i := 0) (v := ?_) hC rfl (by kernel_rfl) (by kernel_rfl) (by kernel_rfl) (by kernel_rfl) (fun _ _ _ h => h) (Or.inl ⟨by kernel_rfl, ?_⟩) ?_; rotate_left; (intro w hc;  clear hc; go_simp; try with_reducible rfl))
      (refine wpAnyX_take (i := 1) (v := ?_) hC rfl (by kernel_rfl) (by kernel_rfl) (by kernel_rfl) (by kernel_rfl) (fun _ _ _ h => h) (Or.inl ⟨by kernel_rfl, ?_⟩) ?_; rotate_left; (intro w hc; have k0 := hc.c0; clear hc; go_simp; try with_reducible rfl))
      (refine wpAnyX_take (i := 3) (v := ?_) hC rfl (by kernel_rfl) (by kernel_rfl) (by kernel_rfl) (by kernel_rfl) (fun _ _ _ h => h) (Or.inl ⟨by kernel_rfl, ?_⟩) ?_; rotate_left; (intro w hc;  clear hc; go_simp; try with_reducible rfl))
      (refine wpAnyX_take (i := 4) (v := ?_) hC rfl (by kernel_rfl) (by kernel_rfl) (by kernel_rfl) (by kernel_rfl) (fun _ _ _ h => h) (Or.inl ⟨by kernel_rfl, ?_⟩) ?_; rotate_left; (intro w hc; have k1 := hc.c1; clear hc; go_simp; try with_reducible rfl))
      (refine wpAnyX_take (i := 6) (v := ?_) hC rfl (by kernel_rfl) (by kernel_rfl) (by kernel_rfl) (by kernel_rfl) (fun _ _ _ h => h) (Or.inl ⟨by kernel_rfl, ?_⟩) ?_; rotate_left; (intro w hc;  clear hc; go_simp; try with_reducible rfl))
      (refine wpAnyX_take (i := 7) (v := ?_) hC rfl (by kernel_rfl) (by kernel_rfl) (by kernel_rfl) (by kernel_rfl) (fun _ _ _ h => h) (Or.inl ⟨by kernel_rfl, ?_⟩) ?_; rotate_left; (intro w hc; have k2 := hc.c2; clear hc; go_simp; try with_reducible rfl))
      go_simp
      refine wpAnyX_one (i := 2) (by kernel_rfl) (wpOp_wanted rfl (by rfl) ?_)
      go_simp
      refine (kA _ hB5).mono ?_
      rintro e w6 ⟨ua, rfl, ho0, hb6⟩
      dsimp only
      have hC6 := hC.below hb6
      have hB6 := hB5.trans (hb6.mono hB5.size)
      refine ⟨hC6, ?_⟩
      (refine wpAnyX_take (i := 9) (v := ?_) hC6 rfl (by kernel_rfl) (by kernel_rfl) (by kernel_rfl) (by kernel_rfl) (fun _ _ _ h => h) (Or.inl ⟨by kernel_rfl, ?_⟩) ?_; rotate_left; (intro w hc;  clear hc; go_simp; try with_reducible rfl))
      refine wpAnyX_one (i := 5) (by kernel_rfl) (wpOp_wanted rfl (by rfl) ?_)
      go_simp
      refine (kB _ hB6).mono ?_
      rintro e w7 ⟨ub, rfl, ho1, hb7⟩
      dsimp only
      have hC7 := hC6.below hb7
      have hB7 := hB6.trans (hb7.mono hB6.size)
      refine ⟨hC7, ?_⟩
      refine wpAnyX_one (i := 8) (by kernel_rfl) (wpOp_wanted rfl (by rfl) ?_)
      go_simp
      refine (kC _ hB7).mono ?_
      rintro e w8 ⟨uc, rfl, ho2, hb8⟩
      dsimp only
      have hC8 := hC7.below hb8
      have hB8 := hB7.trans (hb8.mono hB7.size)
      refine ⟨hC8, ?_⟩
      have ho0' := own_below (own_below ho0 hb7) hb8
      have ho1' := own_below ho1 hb8
      obtain ⟨xa, ma, da, rfl⟩ := own_form3 ho0
      obtain ⟨xb, mb, db, rfl⟩ := own_form3 ho1
      obtain ⟨xc, mc, dc, rfl⟩ := own_form3 ho2
      have HO0 := hide' ho0'
      have HO1 := hide' ho1'
      have HO2 := hide' ho2
      clear ho0 ho1 ho2 ho0' ho1'
      have y0 := hC8.c0
      have z0 := hC8.fz 0
      refine wpAnyX_one (i := 10) (by kernel_rfl) (wpOp_wanted rfl (by rfl) ?_)
      go_simp
      have hS0 : Bx11 (w8.setCell ⟨wr.heap.size, 0, none⟩ (.slice xa ma da)) wr.heap.size (.slice xa ma da) (.slice ab nb cb) (.slice ac nc cc) (.bool rdbl) (.bool rpat) (.bool rter) (.string sta) (.slice ad nd cd) (.bool rhas) (.string aga) (.bool rblt) := set_block hC8 0 _
      clear y0 z0
      refine wpAnyX_one (i := 11) (by kernel_rfl) (wpOp_wanted rfl (by rfl) ?_)
      go_simp
      have y0 := hS0.c1
      have z0 := hS0.fz 1
      refine wpAnyX_one (i := 12) (by kernel_rfl) (wpOp_wanted rfl (by rfl) ?_)
      go_simp
      have hS1 : Bx11 ((w8.setCell ⟨wr.heap.size, 0, none⟩ (.slice xa ma da)).setCell ⟨wr.heap.size, 1, none⟩ (.slice xb mb db)) wr.heap.size (.slice xa ma da) (.slice xb mb db) (.slice ac nc cc) (.bool rdbl) (.bool rpat) (.bool rter) (.string sta) (.slice ad nd cd) (.bool rhas) (.string aga) (.bool rblt) := set_block hS0 1 _
      clear y0 z0
      refine wpAnyX_one (i := 13) (by kernel_rfl) (wpOp_wanted rfl (by rfl) ?_)
      go_simp
      have y0 := hS1.c2
      have z0 := hS1.fz 2
      refine wpAnyX_one (i := 14) (by kernel_rfl) (wpOp_wanted rfl (by rfl) ?_)
      go_simp
      have hS2 : Bx11 (((w8.setCell ⟨wr.heap.size, 0, none⟩ (.slice xa ma da)).setCell ⟨wr.heap.size, 1, none⟩ (.slice xb mb db)).setCell ⟨wr.heap.size, 2, none⟩ (.slice xc mc dc)) wr.heap.size (.slice xa ma da) (.slice xb mb db) (.slice xc mc dc) (.bool rdbl) (.bool rpat) (.bool rter) (.string sta) (.slice ad nd cd) (.bool rhas) (.string aga) (.bool rblt) := set_block hS1 2 _
      clear y0 z0
      refine wpAnyX_done (by kernel_rfl) ?_ _
      have hB9 : Below wr.heap.size wr (((w8.setCell ⟨wr.heap.size, 0, none⟩ (.slice xa ma da)).setCell ⟨wr.heap.size, 1, none⟩ (.slice xb mb db)).setCell ⟨wr.heap.size, 2, none⟩ (.slice xc mc dc)) := ((hB8.setCell (Nat.le_refl _) _).setCell (Nat.le_refl _) _).setCell (Nat.le_refl _) _
      have hL0 := own_set (own_set (own_set HO0.out hC8 (by decide) 0 (.slice xa ma da)) hS0 (by decide) 1 (.slice xb mb db)) hS1 (by decide) 2 (.slice xc mc dc)
      have hL1 := own_set (own_set (own_set HO1.out hC8 (by decide) 0 (.slice xa ma da)) hS0 (by decide) 1 (.slice xb mb db)) hS1 (by decide) 2 (.slice xc mc dc)
      have hL2 := own_set (own_set (own_set HO2.out hC8 (by decide) 0 (.slice xa ma da)) hS0 (by decide) 1 (.slice xb mb db)) hS1 (by decide) 2 (.slice xc mc dc)
      generalize (((w8.setCell ⟨wr.heap.size, 0, none⟩ (.slice xa ma da)).setCell ⟨wr.heap.size, 1, none⟩ (.slice xb mb db)).setCell ⟨wr.heap.size, 2, none⟩ (.slice xc mc dc)) = w9 at hS2 hB9 hL0 hL1 hL2 ⊢
      have hb0 : W5.drew.heap.size ≤ w7.heap.size := Nat.le_trans hb6.size hb7.size
      have hw5 : w.heap.size ≤ W5.drew.heap.size := Nat.le_trans hsz hB5.size
      replace hL0 := own_mono hL0 hw5
      replace hL1 := own_mono hL1 (Nat.le_trans hw5 hb6.size)
      replace hL2 := own_mono hL2 (Nat.le_trans hw5 hb0)
      clear hC hB5 hb6 hC6 hB6 hb7 hC7 hB7 hb8 hC8 hB8 hS0 hS1 HO0 HO1 HO2 hb0 hw5 kA kB kC
      have c7 := hS2.c7
      have HL0 := hide' hL0
      have HL1 := hide' hL1
      have HL2 := hide' hL2
      clear hL0 hL1 hL2
      go_wp2_with fail
      refine (kD _ hB9).mono ?_
      rintro e w10 ⟨ud, rfl, ho3, hb10⟩
      obtain ⟨xd, md, dd, rfl⟩ := own_form3 ho3
      have hx10 := hS2.below hb10
      have hl0 := own_below HL0.out hb10
      have hl1 := own_below HL1.out hb10
      have hl2 := own_below HL2.out hb10
      have hl3 := own_mono ho3 (Nat.le_trans hsz hB9.size)
      have hB10 := hB9.trans (hb10.mono hB9.size)
      have d7 := hx10.c7
      have z7 := hx10.fz 7
      have HX := hide' hx10
      have HL := hide' (And.intro hl0 (And.intro hl1 (And.intro hl2 hl3)))
      clear hS2 HL0 HL1 HL2 ho3 hb10 hB9 c7 hx10 hl0 hl1 hl2 hl3 kD
      go_upto_region 7 with fail
      clear d7 z7
      have hC : Bx11 (w10.setCell ⟨wr.heap.size, 7, none⟩ (.slice xd md dd)) wr.heap.size (.slice xa ma da) (.slice xb mb db) (.slice xc mc dc) (.bool rdbl) (.bool rpat) (.bool rter) (.string sta) (.slice xd md dd) (.bool rhas) (.string aga) (.bool rblt) := set_block HX.out 7 _
      have hl0 := own_set HL.out.1 HX.out (by decide) 7 (.slice xd md dd)
      have hl1 := own_set HL.out.2.1 HX.out (by decide) 7 (.slice xd md dd)
      have hl2 := own_set HL.out.2.2.1 HX.out (by decide) 7 (.slice xd md dd)
      have hl3 := own_set HL.out.2.2.2 HX.out (by decide) 7 (.slice xd md dd)
      have hB11 : Below wr.heap.size wr (w10.setCell ⟨wr.heap.size, 7, none⟩ (.slice xd md dd)) := hB10.setCell (Nat.le_refl _) _
      clear HX HL hB10
      generalize w10.setCell ⟨wr.heap.size, 7, none⟩ (.slice xd md dd) = w11 at hC hl0 hl1 hl2 hl3 hB11 ⊢
      have HL := hide' (And.intro hl0 (And.intro hl1 (And.intro hl2 hl3)))
      clear hl0 hl1 hl2 hl3
      refine wp_region_class (C := fun W => Bx11 W wr.heap.size (.slice xa ma da) (.slice xb mb db) (.slice xc mc dc) (.bool rdbl) (.bool rpat) (.bool rter) (.string sta) (.slice xd md dd) (.bool rhas) (.string aga) (.bool rblt)) (by kernel_rfl) ?_
      replace hC : Bx11 w11.drew wr.heap.size (.slice xa ma da) (.slice xb mb db) (.slice xc mc dc) (.bool rdbl) (.bool rpat) (.bool rter) (.string sta) (.slice xd md dd) (.bool rhas) (.string aga) (.bool rblt) := hC
      (refine wpAnyC_take (i := 0) (v := ?_) hC rfl (by kernel_rfl) (by kernel_rfl) (by kernel_rfl) (fun _ _ _ h => h) (Or.inl ⟨by kernel_rfl, ?_⟩) ?_; rotate_left; (intro w hc;  clear hc; go_simp; try with_reducible rfl))
      (refine wpAnyC_take (i := 1) (v := ?_) hC rfl (by kernel_rfl) (by kernel_rfl) (by kernel_rfl) (fun _ _ _ h => h) (Or.inl ⟨by kernel_rfl, ?_⟩) ?_; rotate_left; (intro w hc; have k6 := hc.c6; clear hc; go_simp; try with_reducible rfl))
      (refine wpAnyC_take (i := 3) (v := ?_) hC rfl (by kernel_rfl) (by kernel_rfl) (by kernel_rfl) (fun _ _ _ h => h) (Or.inl ⟨by kernel_rfl, ?_⟩) ?_; rotate_left; (intro w hc;  clear hc; go_simp; try with_reducible rfl))
      (refine wpAnyC_take (i := 4) (v := ?_) hC rfl (by kernel_rfl) (by kernel_rfl) (by kernel_rfl) (fun _ _ _ h => h) (Or.inl ⟨by kernel_rfl, ?_⟩) ?_; rotate_left; (intro w hc; have k9 := hc.c9; clear hc; go_simp; try with_reducible rfl))
      go_simp
      refine wpAnyC_one (i := 2) (by kernel_rfl) (wpOp_wanted rfl (by rfl) ?_)
      go_simp
      refine (kS _).mono ?_
      rintro e w12 ⟨rfl, hb12⟩
      dsimp only
      have hC12 := hC.below hb12
      refine ⟨hC12, ?_⟩
      (refine wpAnyC_take (i := 6) (v := ?_) hC12 rfl (by kernel_rfl) (by kernel_rfl) (by kernel_rfl) (fun _ _ _ h => h) (Or.inl ⟨by kernel_rfl, ?_⟩) ?_; rotate_left; (intro w hc;  clear hc; go_simp; try with_reducible rfl))
      refine wpAnyC_one (i := 5) (by kernel_rfl) (wpOp_wanted rfl (by rfl) ?_)
      go_simp
      refine (kG _).mono ?_
      rintro e w13 ⟨rfl, hb13⟩
      dsimp only
      have hC13 := hC12.below hb13
      refine ⟨hC13, ?_⟩
      have y0 := hC13.c6
      have z0 := hC13.fz 6
      refine wpAnyC_one (i := 7) (by kernel_rfl) (wpOp_wanted rfl (by rfl) ?_)
      go_simp
      have hC14 : Bx11 (w13.setCell ⟨wr.heap.size, 6, none⟩ (.string sta)) wr.heap.size (.slice xa ma da) (.slice xb mb db) (.slice xc mc dc) (.bool rdbl) (.bool rpat) (.bool rter) (.string sta) (.slice xd md dd) (.bool rhas) (.string aga) (.bool rblt) := set_block hC13 6 _
      refine ⟨hC14, ?_⟩
      clear y0 z0
      (refine wpAnyC_take (i := 8) (v := ?_) hC14 rfl (by kernel_rfl) (by kernel_rfl) (by kernel_rfl) (fun _ _ _ h => h) (Or.inl ⟨by kernel_rfl, ?_⟩) ?_; rotate_left; (intro w hc;  clear hc; go_simp; try with_reducible rfl))
      have y0 := hC14.c9
      have z0 := hC14.fz 9
      refine wpAnyC_one (i := 9) (by kernel_rfl) (wpOp_wanted rfl (by rfl) ?_)
      go_simp
      have hC15 : Bx11 ((w13.setCell ⟨wr.heap.size, 6, none⟩ (.string sta)).setCell ⟨wr.heap.size, 9, none⟩ (.string aga)) wr.heap.size (.slice xa ma da) (.slice xb mb db) (.slice xc mc dc) (.bool rdbl) (.bool rpat) (.bool rter) (.string sta) (.slice xd md dd) (.bool rhas) (.string aga) (.bool rblt) := set_block hC14 9 _
      clear y0 z0
      refine ⟨hC15, wpAnyC_done (by kernel_rfl) ?_ _⟩
      have up : ∀ {e size n : Nat} {v : Value} {xs : List Value}, w11.ownsRow w.heap.size e size v n xs → 43 ≠ e → ((w13.setCell ⟨wr.heap.size, 6, none⟩ (.string sta)).setCell ⟨wr.heap.size, 9, none⟩ (.string aga)).ownsRow w.heap.size e size v n xs := fun h0 he => by
        have h0' : w11.drew.ownsRow w.heap.size _ _ _ _ _ := h0
        exact own_set (own_set (own_below (own_below h0' hb12) hb13) hC13 he 6 _) hC14 he 9 _
      have hl0 := up HL.out.1 (by decide)
      have hl1 := up HL.out.2.1 (by decide)
      have hl2 := up HL.out.2.2.1 (by decide)
      have hl3 := up HL.out.2.2.2 (by decide)
      have hB15 : Below wr.heap.size wr ((w13.setCell ⟨wr.heap.size, 6, none⟩ (.string sta)).setCell ⟨wr.heap.size, 9, none⟩ (.string aga)) := by
        have h1 := hB11.drew.trans (hb12.mono hB11.drew.size)
        have h2 := h1.trans (hb13.mono h1.size)
        exact (h2.setCell (Nat.le_refl _) _).setCell (Nat.le_refl _) _
      generalize (w13.setCell ⟨wr.heap.size, 6, none⟩ (.string sta)).setCell ⟨wr.heap.size, 9, none⟩ (.string aga) = w15 at hC15 hl0 hl1 hl2 hl3 hB15 ⊢
      clear up HL hC hB11 hb12 hC12 hb13 hC13 hC14 kS kG
      obtain ⟨y, hyr, hyc⟩ : ∃ y : Rx, y.r = ⟨rts, rps, ros, rdbl, rpat, rter, rsta, rrcp, rhas, raga, rblt⟩ ∧ rxC y = [.slice xa ma da, .slice xb mb db, .slice xc mc dc, .bool rdbl, .bool rpat, .bool rter, .string sta, .slice xd md dd, .bool rhas, .string aga, .bool rblt] := ⟨⟨_, .slice xa ma da, .slice xb mb db, .slice xc mc dc, .slice xd md dd⟩, rfl, by rw [HSTA.out, HAGA.out]; rfl⟩
      have hyo : RxO w15 w.heap.size y := by
        obtain ⟨yr, ya, yb, yc, yd⟩ := y
        simp only at hyr
        subst hyr
        simp only [rxC, ruC, List.cons.injEq] at hyc
        obtain ⟨rfl, rfl, rfl, _, _, _, _, rfl, _⟩ := hyc
        exact ⟨hl0, hl1, hl2, hl3⟩
      have hq := HR.out.below hB15
      have e0 := hC15.c0
      have e1 := hC15.c1
      have e2 := hC15.c2
      have e3 := hC15.c3
      have e4 := hC15.c4
      have e5 := hC15.c5
      have e6 := hC15.c6
      have e7 := hC15.c7
      have e8 := hC15.c8
      have e9 := hC15.c9
      have e10 := hC15.c10
      have HY := hide' hyr
      have HYC := hide' hyc
      have hs15 := Nat.le_trans hsz hB15.size
      have hL1 : L'.length ≤ 1000000 := by have := HLE.out; omega
      clear hl0 hl1 hl2 hl3 hyr hyc HSTA HAGA hC15
      go_wp2_with (at_builtin; refine wpList_addR HLE.out.symm rfl _ _ rfl hq y _ _ _ _ _ _ _ _ _ _ _ HYC.out hyo hL1 hs15 rfl rfl ?_; intro g cap2 w16 hq16 hb16)
      exact ⟨⟨k + 1, L' ++ [y], by omega, by go_num, hq16, HT.out y HY.out, (HB.out.trans (hB15.mono HB.out.size)).trans hb16⟩, by simp [intOf]; omega⟩
    · have hke : L.take k = L := List.take_of_length_le (by omega)
      rw [hke] at hm
      have HO := hide' hrow
      have HM := hide' hm
      clear hrow hke hc hf hS hm
      go_wp2
      go_ret
      exact ⟨_, rfl, L', HO.out, HM.out, hB⟩
theorem copiesOf_nil (a : Option Addr) (cap : Nat) (w : World) :
    Calls Tryd.prog 29 #[.slice a 0 cap] w fun e w' => e = .returned (.slice none 0 0) ∧ w' = w := by
  go_enter Tryd.func29, Tryd.ntmps29
  go_wp2
  go_loopw [8, 3] (fun i l wr => i = .int .i64 0 ∧ l = .slice none 0 0 ∧ wr = w) (fun _ _ _ => 0)
  case atStart => exact ⟨rfl, rfl, rfl⟩
  case round =>
    obtain ⟨rfl, rfl, rfl⟩ := hrel
    go_wp2
    go_ret
    exact ⟨rfl, rfl⟩
theorem copiesOf_any (L : List Rx) (v : Value) (w : World) (hl : L.length ≤ 100000) (hf : ∀ x ∈ L, FitR 100000000 x.r) (h : Rls w v L) :
    Calls Tryd.prog 29 #[v] w fun e w' => ∃ v', e = .returned v' ∧ ∃ L', OwnR w' w.heap.size v' L' ∧ SameR L L' ∧ Below w.heap.size w w' := by
  rcases h.1 with ⟨a, c, rfl, rfl⟩ | ⟨b, off, cap, rfl, h3, h4⟩
  · exact (copiesOf_nil a c w).mono fun e w' ⟨he, hw⟩ => ⟨_, he, [], OwnR.nil _ _, rfl, hw ▸ Below.refl _ _⟩
  · exact copiesOf_some L b off cap w hl h3 hf h.2 h4
end Go.Proofs.YtkmedgdpcifnoaaDoor
