/- printf of the law's words; the law's run of it. The contract of anvilref1.Decimal; what a number's digits are as a number. The law's alive. -/
import Derived.Test.YtbfchadcpokjoaaGreatDoorAZx
import Derived.Test.YtbfchadcpokjoaaGreatDoorAZt
import Derived.Test.YtbfchadcpokjoaaGreatDoorAZv
import Derived.Lib.ItoaMem
namespace Go.Proofs.YtbfchadcpokjoaaGreatDoor
open Go.RowKit Go.Maps

def fmtS : Bs := [37, 115, 45, 37, 100, 92, 110]
def outS : Bs := [97, 45, 53, 10, 98, 45, 48, 10]
theorem rnd_one : rndP fmtP [[97], [53], [98], [120]] true [] = some ([[98], [120]], true, [97, 45, 53, 10]) := by decide +kernel
theorem rnd_two : rndP fmtP [[98], [120]] true [97, 45, 53, 10] = some ([], false, outS) := by decide +kernel
structure PfC (C : Nat) (yv : Value) (g o : Nat) (x : Bs) (w : World) : Prop where
  c1 : w.cell? ⟨C, 1, none⟩ = some yv
  c0 : w.cell? ⟨g, o, none⟩ = some (.string (mk x))
set_option maxRecDepth 100000 in
set_option maxHeartbeats 4000000 in
theorem printf_law (V w : World) (C : Nat) (fv y iv : Value) (hC : CallAt w C fv y iv (.slice none 0 0)) (hVC : V.heap.size ≤ C) (hV : Below V.heap.size V w) (hy : Txs V y [fmtS, [97], [53], [98], [120]]) :
    Calls Tryz.prog 46 #[.pointer (some ⟨C, 0, none⟩)] w fun r w' => ∃ ov, r = .returned (.int .i64 1) ∧ CallAt w' C fv y iv ov ∧ Dat w' ov outS ∧ Turn (· = C) w w' := by
  obtain ⟨g, o, c, hyy, hc0, hg⟩ := (hy.below hV (Nat.le_refl _)).head
  obtain ⟨ya, yc, hsl, hT⟩ := hy.tail
  subst hyy
  have hsl : ∀ W : World, (Instr.slice 24 (.slice (some ⟨g, o, none⟩) 5 c) (some (.int .i64 1)) none none).run Tryz.prog W = .ok (.slice ya 4 yc) W := hsl
  have hT : Txs V (.slice ya 4 yc) [[97], [53], [98], [120]] := hT
  have hC : CallAt w C fv (.slice (some ⟨g, o, none⟩) 5 c) iv (.slice none 0 0) := hC
  have hC0 : PfC C (.slice (some ⟨g, o, none⟩) 5 c) g o fmtS w.drew := ⟨by show w.cell? _ = _; rw [Lib.cell_of_heap hC]; rfl, hc0⟩
  have c1 : w.cell? ⟨C, 1, none⟩ = some (.slice (some ⟨g, o, none⟩) 5 c) := by rw [Lib.cell_of_heap hC]; rfl
  have hCl := lt_of_block hC
  have HC0 := hide' hC0
  have HC := hide' hC
  have HT := hide' hT
  have HV := hide' hV
  clear hC0 hT hy hV hC
  go_enter Tryz.func46, Tryz.ntmps46
  go_upto_region 4 with fail
  refine wp_region_classX [] (C := PfC C (.slice (some ⟨g, o, none⟩) 5 c) g o fmtS) (by kernel_rfl) ?_
  (refine wpAnyX_take (i := 0) (v := ?_) HC0.out rfl (by kernel_rfl) (by kernel_rfl) (by kernel_rfl) (by kernel_rfl) (fun _ _ _ h => h) (Or.inl ⟨by kernel_rfl, ?_⟩) ?_; rotate_left; (intro w hc; have k0 := hc.c0; have k1 := hc.c1; clear hc; go_simp; try with_reducible rfl))
  (refine wpAnyX_take (i := 1) (v := ?_) HC0.out rfl (by kernel_rfl) (by kernel_rfl) (by kernel_rfl) (by kernel_rfl) (fun _ _ _ h => h) (Or.inl ⟨by kernel_rfl, ?_⟩) ?_; rotate_left; (intro w hc; have k0 := hc.c0; have k1 := hc.c1; clear hc; go_simp; try with_reducible rfl))
  (refine wpAnyX_take (i := 2) (v := ?_) HC0.out rfl (by kernel_rfl) (by kernel_rfl) (by kernel_rfl) (by kernel_rfl) (fun _ _ _ h => h) (Or.inl ⟨by kernel_rfl, ?_⟩) ?_; rotate_left; (intro w hc; have k0 := hc.c0; have k1 := hc.c1; clear hc; go_simp; try with_reducible rfl))
  (refine wpAnyX_take (i := 3) (v := ?_) HC0.out rfl (by kernel_rfl) (by kernel_rfl) (by kernel_rfl) (by kernel_rfl) (fun _ _ _ h => h) (Or.inl ⟨by kernel_rfl, ?_⟩) ?_; rotate_left; (intro w hc; have k0 := hc.c0; have k1 := hc.c1; clear hc; go_simp; try with_reducible rfl))
  (refine wpAnyX_take (i := 4) (v := ?_) HC0.out rfl (by kernel_rfl) (by kernel_rfl) (by kernel_rfl) (by kernel_rfl) (fun _ _ _ h => h) (Or.inl ⟨by kernel_rfl, ?_⟩) ?_; rotate_left; (intro w hc; have k0 := hc.c0; have k1 := hc.c1; clear hc; go_simp; try with_reducible rfl))
  (refine wpAnyX_take (i := 5) (v := ?_) HC0.out rfl (by kernel_rfl) (by kernel_rfl) (by kernel_rfl) (by kernel_rfl) (fun _ _ _ h => h) (Or.inl ⟨by kernel_rfl, ?_⟩) ?_; rotate_left; (intro w hc; have k0 := hc.c0; have k1 := hc.c1; clear hc; go_simp; try with_reducible rfl))
  go_simp
  (refine wpAnyX_take (i := 7) (v := ?_) HC0.out rfl (by kernel_rfl) (by kernel_rfl) (by kernel_rfl) (by kernel_rfl) (fun _ _ _ h => h) (Or.inl ⟨by kernel_rfl, ?_⟩) ?_; rotate_left; (intro w hc; have k0 := hc.c0; have k1 := hc.c1; clear hc; go_simp; try with_reducible rfl))
  (refine wpAnyX_take (i := 8) (v := ?_) HC0.out rfl (by kernel_rfl) (by kernel_rfl) (by kernel_rfl) (by kernel_rfl) (fun _ _ _ h => h) (Or.inl ⟨by kernel_rfl, ?_⟩) ?_; rotate_left; (intro w hc; have k0 := hc.c0; have k1 := hc.c1; clear hc; go_simp; try with_reducible rfl))
  (refine wpAnyX_take (i := 9) (v := ?_) HC0.out rfl (by kernel_rfl) (by kernel_rfl) (by kernel_rfl) (by kernel_rfl) (fun _ _ _ h => h) (Or.inl ⟨by kernel_rfl, ?_⟩) ?_; rotate_left; (intro w hc; have k0 := hc.c0; have k1 := hc.c1; clear hc; go_simp; try with_reducible rfl))
  (refine wpAnyX_take (i := 10) (v := ?_) HC0.out rfl (by kernel_rfl) (by kernel_rfl) (by kernel_rfl) (by kernel_rfl) (fun _ _ _ h => h) (Or.inl ⟨by kernel_rfl, ?_⟩) ?_; rotate_left; (intro w hc; have k0 := hc.c0; have k1 := hc.c1; clear hc; go_simp; try with_reducible rfl))
  (refine wpAnyX_take (i := 11) (v := ?_) HC0.out rfl (by kernel_rfl) (by kernel_rfl) (by kernel_rfl) (by kernel_rfl) (fun _ _ _ h => h) (Or.inl ⟨by kernel_rfl, ?_⟩) ?_; rotate_left; (intro w hc; have k0 := hc.c0; have k1 := hc.c1; clear hc; go_simp; try with_reducible rfl))
  go_simp
  refine wpAnyX_one (i := 6) (by kernel_rfl) (wpOp_wanted rfl (by rfl) ?_)
  go_simp
  refine (pieces_fmt w.drew).mono ?_
  rintro r w1 ⟨pv, rfl, hP, hb1⟩
  have hb1' : Below w.heap.size w w1 := ⟨hb1.os, hb1.tape, hb1.output, hb1.size, hb1.block⟩
  have hP1 : Pcs w.heap.size w1 pv fmtP := hP
  have hC1 : CallAt w1 C fv (.slice (some ⟨g, o, none⟩) 5 c) iv (.slice none 0 0) := (hb1'.block C hCl).trans HC.out
  have hK1 : PfC C (.slice (some ⟨g, o, none⟩) 5 c) g o fmtS w1 := ⟨by rw [Lib.cell_of_heap hC1]; rfl, (World.cell?_of_block (a := ⟨g, o, none⟩) (hb1'.block g hg)).trans hc0⟩
  have hI1 : RdI w1 C fv (.slice (some ⟨g, o, none⟩) 5 c) iv (.slice none 0 0) [] w1 := ⟨hC1, Dat.nil _, Nat.zero_le _, (fun _ e => by cases e), Turn.refl _ _⟩
  have hV1 : Below V.heap.size V w1 := HV.out.trans (hb1'.mono HV.out.size)
  obtain ⟨pg, pc, hpv⟩ : ∃ g c, pv = .slice (some ⟨g, 0, none⟩) 3 c := by obtain ⟨g, c, h, _⟩ := hP1; exact ⟨g, c, h⟩
  subst hpv
  have q1 := round_any V w1 w.heap.size C fv _ iv _ (.slice ya 4 yc) fmtP [[97], [53], [98], [120]] w1 _ [] hVC hV1 hCl hP1 (by decide) (by decide) (by decide) HT.out hI1 _ _ _ rnd_one
  have HQ1 := hide' q1
  have HB1 := hide' hb1'
  have HP1 := hide' hP1
  have HV1 := hide' hV1
  have HK1 := hide' hK1
  clear q1 hb1' hP1 hV1 hK1 hI1 hC1 hb1 hP HC HC0 hc0 c1
  refine ⟨HK1.out, ?_⟩
  refine wpAnyX_one (i := 12) (by kernel_rfl) (wpOp_wanted rfl (by rfl) ?_)
  go_simp
  refine ⟨HK1.out, ?_⟩
  refine wpAnyX_one (i := 13) (by kernel_rfl) (wpOp_wanted rfl (by rfl) ?_)
  go_simp
  refine ⟨HK1.out, ?_⟩
  refine wpAnyX_done (by kernel_rfl) ?_ _
  go_wp2_with fail
  refine wp_loop_rounds 3 ?_
  rw [rounds_succ]
  go_wp2_with fail
  refine HQ1.out.mono ?_
  rintro r w2 ⟨lv2, ov2, rfl, hT2, hI2⟩
  obtain ⟨l2a, l2c, hl2⟩ : ∃ a c, lv2 = .slice a 2 c := by
    rcases hT2 with ⟨_, _, _, h⟩ | ⟨g, o, c, h, _⟩
    · cases h
    · exact ⟨_, _, h⟩
  subst hl2
  have q2 := round_any V w1 w.heap.size C fv _ iv _ (.slice l2a 2 l2c) fmtP [[98], [120]] w2 _ [97, 45, 53, 10] hVC HV1.out hCl HP1.out (by decide) (by decide) (by decide) hT2 hI2 _ _ _ rnd_two
  have HQ2 := hide' q2
  clear q2 HQ1 hT2 hI2
  go_wp2_with fail
  rw [rounds_succ]
  go_wp2_with fail
  refine HQ2.out.mono ?_
  rintro r w3 ⟨lv3, ov3, rfl, hT3, hI3⟩
  obtain ⟨l3a, l3c, hl3⟩ : ∃ a c, lv3 = .slice a 0 c := by
    rcases hT3 with ⟨a, c, h, _⟩ | ⟨g, o, c, h, _⟩
    · exact ⟨a, c, h⟩
    · exact ⟨_, _, h⟩
  subst hl3
  clear HQ2 hT3
  go_wp2_with fail
  rw [rounds_succ]
  go_wp2_with fail
  go_ret
  exact ⟨ov3, rfl, hI3.call, hI3.dat, ⟨hI3.turn.os.trans HB1.out.os, hI3.turn.tape.trans HB1.out.tape, hI3.turn.output.trans HB1.out.output, Nat.le_trans HB1.out.size hI3.turn.size, fun k hk hn => (hI3.turn.block k (Nat.lt_of_lt_of_le hk HB1.out.size) hn).trans (HB1.out.block k hk)⟩⟩
theorem cf46 (xs : Array Value) (W : World) : (callFunc 46 xs).run Tryz.prog W = .ok (.enter 46 xs) W := by kernel_rfl
theorem lrun_printf (B n : Nat) (E : Addr) (v av : Value) (w : World) (h : Nodes w v (tns n)) (hG : Glo B w E) (hB : B ≤ w.heap.size) (hv : Txs w av [[112, 114, 105, 110, 116, 102], fmtS, [97], [53], [98], [120]]) :
    Calls Tryz.prog 9 #[.agg #[v, .int .i64 3, .int .i64 60000], av, .string (mk [])] w fun r w' => ∃ ta tn tc ck, r = .returned (.tuple #[.string (mk outS), .int .i64 1, .bool true, .agg #[.slice ta tn tc, .int .i64 ck, .int .i64 60000]]) ∧ Below w.heap.size w w' := by
  refine (lrun_any B E v (tns n) 3 60000 treeT w h hG hB (tns_len n) (newR_tns n) av [112, 114, 105, 110, 116, 102] [fmtS, [97], [53], [98], [120]] 46 rfl cf46 (by decide) hv [] (fun s ob _ _ => s = 1 ∧ ob = outS) (fun V W G C n0 y iv hwb hb hf hG2 hC hVC hVb hcl hyV => ?_)).mono ?_
  · refine (printf_law V W C _ y iv hcl hVC hVb hyV).mono ?_
    rintro r w' ⟨ov, rfl, hc, hd, ht⟩
    obtain ⟨a, cap, hov⟩ := hd.len
    have hle : outS.length ≤ cap := by
      rcases hd with ⟨e1, e2⟩ | ⟨g5, cap5, cur5, e1, e2, e3, _⟩
      · cases e2
      · rw [hov] at e1; cases e1; exact e3
    refine ⟨1, a, outS.length, cap, rfl, hle, by rw [Lib.cell_of_heap hc, ← hov]; rfl, outS, treeT, 3, _, ?_, hf.apart ht.size fun i hi => ht.block i (by have := lt_of_block hcl; omega) (by have := hi.2; omega), ht.below (by have := lt_of_block hcl; omega) (fun i hi => by subst hi; exact hC), rfl, rfl⟩
    rw [hov] at hd
    rcases hd.rds with ⟨e1, e2⟩ | ⟨ad, cp, e1, e2, e3⟩
    · cases e2
    · cases e1; exact .inr ⟨ad, _, rfl, e2, e3⟩
  · rintro r w' ⟨ob, st', tv, clk', ns', rfl, hns, ⟨rfl, rfl⟩, hb⟩
    obtain ⟨ta, tc, rfl⟩ := hns.len
    exact ⟨_, _, _, _, rfl, hb⟩
end Go.Proofs.YtbfchadcpokjoaaGreatDoor
namespace Go.Proofs.YtbfchadcpokjoaaGreatDoor
open Go.RowKit Go.Shelf

theorem dec_small (u : Nat) (h : u < 10) : Lib.decDigits u = [UInt8.ofNat (48 + u)] := Lib.decDigits_one h
theorem dec_step (u : Nat) (h : ¬ u < 10) : Lib.decDigits u = Lib.decDigits (u / 10) ++ [UInt8.ofNat (48 + u % 10)] := by
  conv => lhs; rw [Lib.decDigits, dif_neg h]
theorem digit_nat (k : Nat) (h : k < 10) : (UInt8.ofNat (48 + k)).toNat = 48 + k := by
  rw [UInt8.toNat_ofNat']
  exact Nat.mod_eq_of_lt (by omega)
theorem dec_all (u : Nat) : (Lib.decDigits u).all dg = true := by
  induction u using Nat.strongRecOn with
  | ind u ih =>
    by_cases h : u < 10
    · rw [dec_small u h]
      simp only [List.all_cons, List.all_nil, Bool.and_true]
      rw [dg_iff, digit_nat u h]
      omega
    · rw [dec_step u h, List.all_append, ih (u / 10) (by omega)]
      simp only [List.all_cons, List.all_nil, Bool.and_true, Bool.true_and]
      rw [dg_iff, digit_nat _ (Nat.mod_lt _ (by decide))]
      omega
theorem dec_nv (u : Nat) : nv 0 (Lib.decDigits u) = u := by
  induction u using Nat.strongRecOn with
  | ind u ih =>
    by_cases h : u < 10
    · rw [dec_small u h]
      simp only [nv]
      rw [digit_nat u h]
      omega
    · rw [dec_step u h, nv_snoc, ih (u / 10) (by omega), digit_nat _ (Nat.mod_lt _ (by decide))]
      omega
theorem dec_pos (u : Nat) : 1 ≤ (Lib.decDigits u).length := by
  by_cases h : u < 10
  · rw [dec_small u h]; simp
  · rw [dec_step u h]; simp
theorem dec_len (k : Nat) : ∀ u, (Lib.decDigits u).length ≤ k + 1 ↔ u < 10 ^ (k + 1) := by
  induction k with
  | zero =>
    intro u
    by_cases h : u < 10
    · rw [dec_small u h]; simp; omega
    · rw [dec_step u h, List.length_append, List.length_singleton]
      have := dec_pos (u / 10)
      have e : 10 ^ (0 + 1) = 10 := rfl
      rw [e]
      omega
  | succ k ih =>
    intro u
    have hp : 10 ≤ 10 ^ (k + 1) := by
      have := Nat.pow_le_pow_right (n := 10) (by decide) (show 1 ≤ k + 1 by omega)
      simpa using this
    by_cases h : u < 10
    · rw [dec_small u h, Nat.pow_succ]; simp; omega
    · rw [dec_step u h, List.length_append, List.length_singleton, Nat.add_le_add_iff_right, ih (u / 10), Nat.pow_succ 10 (k + 1)]
      omega
theorem itoa_yes (n : Int) (h0 : 0 ≤ n) (h1 : n < 1000000000) : isNum (Lib.itoa n) = true ∧ numOf (Lib.itoa n) = n := by
  obtain ⟨u, rfl⟩ := Int.eq_ofNat_of_zero_le h0
  have e : isNum (Lib.itoa (u : Int)) = true := by
    rw [Lib.itoa_nonneg]
    have hl := (dec_len 8 u).2 (by show u < 1000000000; omega)
    have := dec_pos u
    simp only [isNum, dec_all, Bool.and_true, Bool.and_eq_true, decide_eq_true_eq]
    omega
  refine ⟨e, ?_⟩
  rw [numOf, e, if_pos rfl, Lib.itoa_nonneg, dec_nv]
theorem itoa_no (n : Int) (h : n < 0 ∨ 1000000000 ≤ n) : isNum (Lib.itoa n) = false := by
  rcases h with h | h
  · have e : Lib.itoa n = 45 :: Lib.decDigits n.natAbs := by unfold Lib.itoa; rw [if_pos h]
    have hd : dg 45 = false := by decide
    rw [e]
    simp [isNum, hd]
  · obtain ⟨u, rfl⟩ := Int.eq_ofNat_of_zero_le (show 0 ≤ n by omega)
    rw [Lib.itoa_nonneg]
    have hl : ¬ (Lib.decDigits u).length ≤ 9 := fun hh => by
      have := (dec_len 8 u).1 hh
      have e : 10 ^ (8 + 1) = 1000000000 := by decide
      omega
    simp [isNum, hl]

theorem piece : ∀ k : Fin 10, (⟨#[48, 49, 50, 51, 52, 53, 54, 55, 56, 57]⟩ : ByteArray).extract k.val (k.val + 1) = ⟨#[UInt8.ofNat (48 + k.val)]⟩ := by decide +kernel
theorem piece_at (k : Nat) (h : k < 10) : (⟨#[48, 49, 50, 51, 52, 53, 54, 55, 56, 57]⟩ : ByteArray).extract k (k + 1) = ⟨#[UInt8.ofNat (48 + k)]⟩ := piece ⟨k, h⟩
theorem dec_size (u : Nat) (h : u ≤ 9223372036854775808) : (⟨(Lib.decDigits u).toArray⟩ : ByteArray).size ≤ 20 := by
  show (Lib.decDigits u).toArray.size ≤ 20
  rw [List.size_toArray]
  exact (dec_len 19 u).2 (by have e : 10 ^ (19 + 1) = 100000000000000000000 := by decide
                             omega)
theorem tret_str {a b : ByteArray} (h : a = b) : Ending.returned (.string a) = .returned (.string b) := by rw [h]

set_option maxHeartbeats 400000 in
theorem rdecimal_nat (k : Nat) : ∀ u : Nat, u ≤ k → u ≤ 9223372036854775807 → ∀ w : World,
    Calls Tryz.prog 8 #[.int .i64 u] w fun e w' => e = .returned (.string ⟨(Lib.decDigits u).toArray⟩) ∧ w' = w := by
  induction k using Nat.strongRecOn with
  | ind k ih =>
    intro u hu hb w
    by_cases h : u < 10
    · have j1 : ¬ (u : Int) < 0 := by omega
      have j2 : ¬ (9 : Int) < u := by omega
      go_enter Tryz.func8, Tryz.ntmps8
      go_wp2
      go_ret
      exact ⟨tret_str (by rw [dec_small u h, Nat.mod_eq_of_lt h, piece_at u h]), rfl⟩
    · have j1 : ¬ (u : Int) < 0 := by omega
      have j2 : (9 : Int) < u := by omega
      have hd := dec_step u h
      have hz := dec_size (u / 10) (by omega)
      have kr : ∀ w, Calls Tryz.prog 8 #[.int .i64 ((u : Int) / 10)] w fun e w' => e = .returned (.string ⟨(Lib.decDigits (u / 10)).toArray⟩) ∧ w' = w := fun w => by
        have := ih (u / 10) (by omega) (u / 10) (Nat.le_refl _) (by omega) w
        rwa [show ((u / 10 : Nat) : Int) = (u : Int) / 10 by omega] at this
      have hfin : (⟨(Lib.decDigits (u / 10)).toArray⟩ : ByteArray) ++ (⟨#[UInt8.ofNat (48 + u % 10)]⟩ : ByteArray) = ⟨(Lib.decDigits u).toArray⟩ := by
        rw [hd, ByteArray.mk_append_mk]
      have HF := thide hfin
      have HP := thide (piece_at (u % 10) (Nat.mod_lt _ (by decide)))
      generalize Lib.decDigits u = du at HF ⊢
      generalize (⟨(Lib.decDigits (u / 10)).toArray⟩ : ByteArray) = d at hz kr HF
      clear ih hd hfin
      go_enter Tryz.func8, Tryz.ntmps8
      go_wp2_with (go_at_call 8; refine (kr _).mono ?_; rintro e w' ⟨rfl, rfl⟩)
      go_ret
      exact ⟨tret_str (by rw [← tunhide HF, ← tunhide HP]), rfl⟩

theorem itoa_min : Lib.itoa (-9223372036854775808) = [45, 57, 50, 50, 51, 51, 55, 50, 48, 51, 54, 56, 53, 52, 55, 55, 53, 56, 48, 56] := by
  have e := Lib.itoa_neg 9223372036854775808 (by decide)
  rw [show (-((9223372036854775808 : Nat) : Int)) = -9223372036854775808 from rfl] at e
  rw [e]
  simp [Lib.decDigits]

set_option maxHeartbeats 400000 in
theorem rdecimal_any (n : Int) (h0 : -9223372036854775808 ≤ n) (h1 : n ≤ 9223372036854775807) (w : World) :
    Calls Tryz.prog 8 #[.int .i64 n] w fun e w' => e = .returned (.string ⟨(Lib.itoa n).toArray⟩) ∧ w' = w := by
  by_cases hn : 0 ≤ n
  · obtain ⟨u, rfl⟩ := Int.eq_ofNat_of_zero_le hn
    rw [Lib.itoa_nonneg]
    exact rdecimal_nat u u (Nat.le_refl _) (by omega) w
  · by_cases hm : n = -9223372036854775808
    · subst hm
      rw [itoa_min]
      go_enter Tryz.func8, Tryz.ntmps8
      go_wp2
      go_ret
      exact ⟨rfl, rfl⟩
    · have hm' : (n == -9223372036854775808) = false := beq_eq_false_iff_ne.2 hm
      obtain ⟨u, hu⟩ : ∃ u : Nat, -n = u := ⟨(-n).toNat, by omega⟩
      have hn' : n < 0 := by omega
      have hbd : -9223372036854775808 < n := by omega
      have e : Lib.itoa n = 45 :: Lib.decDigits u := by
        have := Lib.itoa_neg u (by omega)
        rwa [show -(u : Int) = n by omega] at this
      have hz := dec_size u (by omega)
      have kr : ∀ w, Calls Tryz.prog 8 #[.int .i64 (-n)] w fun e w' => e = .returned (.string ⟨(Lib.decDigits u).toArray⟩) ∧ w' = w := fun w => by
        rw [hu]
        exact rdecimal_nat u u (Nat.le_refl _) (by omega) w
      have hfin : (⟨#[45]⟩ : ByteArray) ++ (⟨(Lib.decDigits u).toArray⟩ : ByteArray) = ⟨(Lib.itoa n).toArray⟩ := by
        rw [e, ByteArray.mk_append_mk]
        simp
      have HF := thide hfin
      generalize Lib.itoa n = it at HF ⊢
      generalize (⟨(Lib.decDigits u).toArray⟩ : ByteArray) = d at hz kr HF
      clear hfin e hu hm hn h0
      go_enter Tryz.func8, Tryz.ntmps8
      go_wp2_with (go_at_call 8; refine (kr _).mono ?_; rintro e w' ⟨rfl, rfl⟩)
      go_ret
      exact ⟨tret_str (by rw [← tunhide HF]), rfl⟩
theorem hasP_digit {l : Bs} (h : l.all dg = true) : Lib.hasPrefix l [45] = false := by
  cases l with
  | nil => rfl
  | cons c r =>
    have hc : dg c = true := by simp only [List.all_cons, Bool.and_eq_true] at h; exact h.1
    have := (dg_iff c).1 hc
    have hne : ¬ c = 45 := fun e => by subst e; simp at this
    cases hh : Lib.hasPrefix (c :: r) [45] with
    | false => rfl
    | true =>
      exfalso
      apply hne
      unfold Lib.hasPrefix at hh
      first
        | (simp at hh; exact hh)
        | (simp at hh; exact hh.symm)
        | (simp at hh; exact hh.1)
        | (simp at hh; exact hh.1.symm)
/-- a number's digits, as util reads them -/
theorem sg_itoa (n : Int) (h0 : -1000000000 < n) (h1 : n < 1000000000) : sgB (Lib.itoa n) = true ∧ sgN (Lib.itoa n) = n := by
  by_cases hn : 0 ≤ n
  · obtain ⟨u, rfl⟩ := Int.eq_ofNat_of_zero_le hn
    obtain ⟨i1, i2⟩ := itoa_yes (u : Int) hn h1
    rw [Lib.itoa_nonneg] at i1 i2 ⊢
    have hp := hasP_digit (dec_all u)
    have hd : sgD (Lib.decDigits u) = Lib.decDigits u := by
      unfold sgD Lib.trimPrefix
      rw [hp]; rfl
    unfold sgB sgN
    rw [hd, hp]
    exact ⟨i1, i2⟩
  · obtain ⟨u, hu⟩ : ∃ u : Nat, -n = u := ⟨(-n).toNat, by omega⟩
    have e : Lib.itoa n = 45 :: Lib.decDigits u := by
      have := Lib.itoa_neg u (by omega)
      rwa [show -(u : Int) = n by omega] at this
    obtain ⟨i1, i2⟩ := itoa_yes (u : Int) (by omega) (by omega)
    rw [Lib.itoa_nonneg] at i1 i2
    have hp : Lib.hasPrefix (45 :: Lib.decDigits u) [45] = true := by unfold Lib.hasPrefix; simp
    have hd : sgD (45 :: Lib.decDigits u) = Lib.decDigits u := by
      unfold sgD Lib.trimPrefix
      rw [hp]; rfl
    rw [e]
    unfold sgB sgN
    rw [hd, hp]
    refine ⟨i1, ?_⟩
    rw [if_pos rfl, i2]
    omega
end Go.Proofs.YtbfchadcpokjoaaGreatDoor
namespace Go.Proofs.YtbfchadcpokjoaaGreatDoor
open Go.RowKit Go.Maps

/-- a new row of texts -/
theorem txs_new (W : World) (L : List Bs) : Txs (W.alloc (.cells (L.map fun x => Value.string (mk x)).toArray 9)) (.slice (some ⟨W.heap.size, 0, none⟩) L.length L.length) L := by
  refine .inr ⟨W.heap.size, 0, L.length, rfl, Nat.le_refl _, by simp, fun i x hx => ?_⟩
  rw [Nat.zero_add, Lib.cell_of_heap (heap_alloc_new W _)]
  simp [hx]
set_option maxRecDepth 100000 in
set_option maxHeartbeats 4000000 in
theorem alive_any (B : Nat) (E : Addr) (w : World) (hG : Glo B w E) (hB : B ≤ w.heap.size) : Calls Tryz.prog 7 #[] w fun r w' => r = .returned (.bool true) ∧ Below w.heap.size w w' := by
  have HG := hide' hG
  clear hG
  go_enter Tryz.func7, Tryz.ntmps7
  go_wp2_with fail
  refine (tree_any w).mono ?_
  rintro r w1 ⟨tv, n, rfl, hn1, hb1⟩
  obtain ⟨W2, hW2⟩ : ∃ W2, W2 = w1.alloc (.cells #[.string ⟨#[112, 114, 105, 110, 116, 102]⟩, .string ⟨#[37, 115, 45, 37, 100, 92, 110]⟩, .string ⟨#[97]⟩, .string ⟨#[53]⟩, .string ⟨#[98]⟩, .string ⟨#[120]⟩] 9) := ⟨_, rfl⟩
  have hb2 : Below w1.heap.size w1 W2 := by rw [hW2]; exact (Below.refl _ _).alloc (Nat.le_refl _) _
  have hB2 : Below w.heap.size w W2 := hb1.trans (hb2.mono hb1.size)
  have hv2 : Txs W2 (.slice (some ⟨w1.heap.size, 0, none⟩) 6 6) [[112, 114, 105, 110, 116, 102], fmtS, [97], [53], [98], [120]] := by rw [hW2]; exact txs_new w1 [[112, 114, 105, 110, 116, 102], fmtS, [97], [53], [98], [120]]
  have q := lrun_printf B n E tv (.slice (some ⟨w1.heap.size, 0, none⟩) 6 6) W2 (hn1.below hb2) (HG.out.keep (hB2.mono hB)) (Nat.le_trans hB hB2.size) hv2
  have HQ := hide' q
  have HB2 := hide' hB2
  clear q hb2 hB2 hv2 hn1 hb1
  go_wp2_with fail
  rw [← hW2]
  refine HQ.out.mono ?_
  rintro r w3 ⟨ta, tn, tc, ck, rfl, hb3⟩
  clear HQ
  have hB3 : Below w.heap.size w w3 := HB2.out.trans (hb3.mono HB2.out.size)
  have HB3 := hide' hB3
  clear hB3 hb3 HB2
  dsimp only [outS]
  go_wp2_with fail
  refine (tree_any _).mono ?_
  rintro r w4 ⟨tv4, n4, rfl, hn4, hb4⟩
  obtain ⟨W5, hW5⟩ : ∃ W5, W5 = w4.alloc (.cells #[.string ⟨#[116, 101, 115, 116]⟩, .string ⟨#[50]⟩, .string ⟨#[45, 108, 116]⟩, .string ⟨#[49, 48]⟩] 9) := ⟨_, rfl⟩
  have hb5 : Below w4.heap.size w4 W5 := by rw [hW5]; exact (Below.refl _ _).alloc (Nat.le_refl _) _
  have hB4 : Below w.heap.size w w4 := (HB3.out.alloc HB3.out.size _).trans (hb4.mono (by have := HB3.out.size; simp; omega))
  have hB5 : Below w.heap.size w W5 := hB4.trans (hb5.mono hB4.size)
  have hv5 : Txs W5 (.slice (some ⟨w4.heap.size, 0, none⟩) 4 4) [[116, 101, 115, 116], [50], [45, 108, 116], [49, 48]] := by rw [hW5]; exact txs_new w4 [[116, 101, 115, 116], [50], [45, 108, 116], [49, 48]]
  have q := lrun_test B n4 E tv4 (.slice (some ⟨w4.heap.size, 0, none⟩) 4 4) [50] [45, 108, 116] [49, 48] 0 W5 (hn4.below hb5) (HG.out.keep (hB5.mono hB)) (Nat.le_trans hB hB5.size) hv5 (fun cv W => ofTwo_num cv [50] [45, 108, 116] [49, 48] 200 W rfl (by decide) (by decide) (fun xs W => by kernel_rfl) (by decide) (by decide) (by decide) (by decide) (by decide) (by decide))
  have HQ := hide' q
  have HB5 := hide' hB5
  clear q hb5 hB4 hB5 hv5 hn4 hb4
  go_wp2_with fail
  rw [← hW5]
  refine HQ.out.mono ?_
  rintro r w6 ⟨s6, ta6, tn6, tc6, ck6, rfl, hb6⟩
  clear HQ
  have hB6 : Below w.heap.size w w6 := HB5.out.trans (hb6.mono HB5.out.size)
  have HB6 := hide' hB6
  clear hB6 hb6 HB5
  go_wp2
  go_ret
  exact ⟨rfl, HB6.out.alloc HB6.out.size _⟩
end Go.Proofs.YtbfchadcpokjoaaGreatDoor
