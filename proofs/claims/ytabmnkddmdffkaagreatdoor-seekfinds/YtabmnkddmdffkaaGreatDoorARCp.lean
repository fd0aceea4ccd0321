import Derived.Test.YtabmnkddmdffkaaGreatDoorARValG
import Derived.Test.YtabmnkddmdffkaaGreatDoorARHeadG
import Derived.Test.YtabmnkddmdffkaaGreatDoorARStrG
import Derived.Test.YtabmnkddmdffkaaGreatDoorARFloat2
import Derived.Test.YtabmnkddmdffkaaGreatDoorARCvt
import Derived.LoopN
namespace Go.Proofs.YtabmnkddmdffkaaGreatDoor.Arc
open Go.RowKit Go.Maps Go.Shelf
theorem addr_add (a : Addr) (i j : Nat) : (a.add i).add j = a.add (i + j) := by
 unfold Addr.add
 by_cases hi : i = 0
 ·subst hi; simp
 ·by_cases hj : j = 0
  ·subst hj; simp [hi]
  ·have : ¬ i + j = 0 := by omega
   simp [hi, hj, Nat.add_assoc]
set_option maxRecDepth 100000 in
set_option maxHeartbeats 1000000 in
theorem cut_short (a : Option Addr) (n cap : Nat) (w : World) (hn : n < 60) :
  Calls Tryz.prog 143 #[.slice a n cap] w fun r w' => r = .returned (.tuple #[.agg #[.string ⟨#[]⟩, .string ⟨#[]⟩, .string ⟨#[]⟩, .string ⟨#[]⟩, .string ⟨#[]⟩, .string ⟨#[]⟩, .slice none 0 0], .slice none 0 0, .bool false]) ∧ Below w.heap.size w w' := by
 have hi : (n : Int) < 60 := by omega
 have hb : ∀ o, Below w.heap.size w (w.alloc o) := fun o => (Below.refl _ _).alloc (Nat.le_refl _) o
 go_enter Tryz.func143, Tryz.ntmps143
 go_wp2
 refine bodyPost_ret (by simp [results, Tryz.results143, go_sem]; rfl) rfl ?_
 exact ⟨rfl, hb _⟩
theorem trim_any (b : Bs) (w : World) (hb : b.length ≤ 100000) : Calls Tryz.prog 165 #[.string (mk b), .string ⟨#[32]⟩] w fun r w' => r = .returned (.string (mk (trimR b))) ∧ w' = w := by
 have q := Tryz.strings_TrimRight_one (mk b) 32 (by decide) w (by rw [mk_size]; omega)
 exact q
theorem rds_part {w : World} {a : Addr} {n cap : Nat} {bs : Bs} (h : Rds w (.slice (some a) n cap) bs) (hn : n = bs.length) (l m c : Nat) (h1 : l + m ≤ n) : Rds w (.slice (some (a.add l)) m c) ((bs.drop l).take m) := by
 have hlen : ((bs.drop l).take m).length = m := by rw [List.length_take, List.length_drop]; omega
 rcases h with ⟨e, _⟩ | ⟨a', c', e, hl, hc⟩
 ·cases e
 ·cases e
  refine .inr ⟨a.add l, c, by rw [hlen], fun hne => ?_, fun j u hj => ?_⟩
  ·rw [add_block]
   refine hl fun e => hne ?_
   rw [e]; simp
  ·have hjl := (List.getElem?_eq_some_iff.1 hj).1
   rw [Lib.byteCells_length, hlen] at hjl
   rw [addr_add]
   refine hc (l + j) u ?_
   simp only [Lib.byteCells, List.getElem?_map] at hj ⊢
   rw [List.getElem?_take_of_lt hjl, List.getElem?_drop] at hj
   exact hj
theorem rds_empty (w : World) (a : Addr) (c : Nat) : Rds w (.slice (some a) 0 c) [] := .inr ⟨a, c, rfl, fun h => absurd rfl h, fun _ _ hj => absurd rfl (cells_ne hj)⟩
theorem addr_pos (a : Addr) (k : Nat) (h : k ≠ 0) : a.add k = ⟨a.block, a.off + k, none⟩ := by unfold Addr.add; simp [h]
theorem addr_zero (a : Addr) : a.add 0 = a := by unfold Addr.add; simp
def PB (W : World) (P : Nat) (cs : Array Value) : Prop := W.heap[P]? = some (.cells cs 221 (0, 0))
theorem pb_set {W : World} {P : Nat} {cs : Array Value} (h : PB W P cs) (k : Nat) (v : Value) : PB (W.setCell ⟨P, k, none⟩ v) P (cs.setIfInBounds k v) := by
 unfold PB at *
 have hlt := lt_of_block h
 have h' : W.heap[P] = .cells cs 221 (0, 0) := by simpa [Array.getElem?_eq_getElem hlt] using h
 show (W.heap.modify P _)[P]? = _
 rw [Array.getElem?_eq_getElem (by simpa using hlt), Array.getElem_modify_self, h']
 rfl
structure Kp (w W : World) (P : Nat) (v : Value) (bs : Bs) : Prop where
 rds : Rds W v bs
 bel : Below w.heap.size w W
 low : w.heap.size ≤ P
theorem Kp.set {w W : World} {P : Nat} {v : Value} {bs : Bs} (h : Kp w W P v bs) (hv : Rds w v bs) (k : Nat) (x : Value) : Kp w (W.setCell ⟨P, k, none⟩ x) P v bs := by
 have hb : Below w.heap.size w (W.setCell ⟨P, k, none⟩ x) := ⟨h.bel.os, h.bel.tape, h.bel.output, Nat.le_trans h.bel.size (Nat.le_of_eq (by simp)), fun j hj => (Below.heap_setCell _ _ _ _ (by show j ≠ P; have := h.low; omega)).trans (h.bel.block j hj)⟩
 exact ⟨hv.below hb, hb, h.low⟩
def Bsl (w : World) (v : Value) (bs : Bs) : Prop := ∃ a n cap, v = .slice (some a) n cap ∧ n = bs.length ∧ n ≤ cap ∧ Rds w v bs
abbrev pcv (c0 c1 c2 c3 c4 c5 : Bs) (dv : Value) : Value := .agg #[.string (mk c0), .string (mk c1), .string (mk c2), .string (mk c3), .string (mk c4), .string (mk c5), dv]
def CutR (v : Value) (bs : Bs) (r : Ending) : Prop := match cutP bs with
 | none => r = .returned (.tuple #[.agg #[.string ⟨#[]⟩, .string ⟨#[]⟩, .string ⟨#[]⟩, .string ⟨#[]⟩, .string ⟨#[]⟩, .string ⟨#[]⟩, .slice none 0 0], .slice none 0 0, .bool false])
 | some (c0, c1, x, y) => ∃ c2 c3 c4 c5 dv bv, r = .returned (.tuple #[pcv c0 c1 c2 c3 c4 c5 dv, bv, .bool true]) ∧ ∀ W, Rds W v bs → Bsl W dv x ∧ Bsl W bv y
theorem valP_ten (s : Bs) (h : s.length ≤ 10) (n : Nat) (hv : valP s = some n) : n < 10000000000 := by
 unfold valP at hv
 split at hv
 ·cases hv
 ·split at hv
  ·rename_i ha
   have e := Option.some.inj hv
   have := numF_lt s 0 fun c hc => (dgtB_iff c).1 (List.all_eq_true.1 ha c hc)
   rw [e, Nat.zero_add, Nat.one_mul] at this
   have h2 : 10 ^ s.length ≤ 10 ^ 10 := Nat.pow_le_pow_right (by decide) h
   omega
  ·cases hv
theorem trimR_len (s : Bs) : (trimR s).length ≤ s.length := by
 unfold trimR Lib.trimRightB
 rw [List.length_reverse]
 refine Nat.le_trans (List.dropWhile_sublist _).length_le ?_
 rw [List.length_reverse]
 exact Nat.le_refl _
theorem cutP_three (b : Bs) (hl : 60 ≤ b.length) : (valP (trimR ((b.drop 48).take 10)) = none → cutP b = none) ∧ ∀ n, valP (trimR ((b.drop 48).take 10)) = some n →
  (evn n ≤ (b.drop 60).length → cutP b = some (trimR (b.take 16), trimR ((b.drop 16).take 12), (b.drop 60).take n, (b.drop 60).drop (evn n))) ∧ (¬ evn n ≤ (b.drop 60).length → cutP b = none) := by
 refine ⟨fun h => ?_, fun n h => ⟨fun h2 => ?_, fun h2 => ?_⟩⟩
 ·unfold cutP; rw [if_neg (by omega), h]
 ·unfold cutP; rw [if_neg (by omega), h]; dsimp only; rw [if_pos h2]
 ·unfold cutP; rw [if_neg (by omega), h]; dsimp only; rw [if_neg h2]
theorem pb_seven {W : World} {P : Nat} {c0 c1 c2 c3 c4 c5 c6 : Value} (h : PB W P #[c0, c1, c2, c3, c4, c5, c6]) (x0 x1 x2 x3 x4 x5 x6 : Value) :
  PB (((((((W.setCell ⟨P, 0, none⟩ x0).setCell ⟨P, 1, none⟩ x1).setCell ⟨P, 2, none⟩ x2).setCell ⟨P, 3, none⟩ x3).setCell ⟨P, 4, none⟩ x4).setCell ⟨P, 5, none⟩ x5).setCell ⟨P, 6, none⟩ x6) P #[x0, x1, x2, x3, x4, x5, x6] := by
 have h0 : PB (W.setCell ⟨P, 0, none⟩ x0) P #[x0, c1, c2, c3, c4, c5, c6] := by simpa using pb_set h 0 x0
 have h1 : PB ((W.setCell ⟨P, 0, none⟩ x0).setCell ⟨P, 1, none⟩ x1) P #[x0, x1, c2, c3, c4, c5, c6] := by simpa using pb_set h0 1 x1
 have h2 : PB (((W.setCell ⟨P, 0, none⟩ x0).setCell ⟨P, 1, none⟩ x1).setCell ⟨P, 2, none⟩ x2) P #[x0, x1, x2, c3, c4, c5, c6] := by simpa using pb_set h1 2 x2
 have h3 : PB ((((W.setCell ⟨P, 0, none⟩ x0).setCell ⟨P, 1, none⟩ x1).setCell ⟨P, 2, none⟩ x2).setCell ⟨P, 3, none⟩ x3) P #[x0, x1, x2, x3, c4, c5, c6] := by simpa using pb_set h2 3 x3
 have h4 : PB (((((W.setCell ⟨P, 0, none⟩ x0).setCell ⟨P, 1, none⟩ x1).setCell ⟨P, 2, none⟩ x2).setCell ⟨P, 3, none⟩ x3).setCell ⟨P, 4, none⟩ x4) P #[x0, x1, x2, x3, x4, c5, c6] := by simpa using pb_set h3 4 x4
 have h5 : PB ((((((W.setCell ⟨P, 0, none⟩ x0).setCell ⟨P, 1, none⟩ x1).setCell ⟨P, 2, none⟩ x2).setCell ⟨P, 3, none⟩ x3).setCell ⟨P, 4, none⟩ x4).setCell ⟨P, 5, none⟩ x5) P #[x0, x1, x2, x3, x4, x5, c6] := by simpa using pb_set h4 5 x5
 have h6 : PB (((((((W.setCell ⟨P, 0, none⟩ x0).setCell ⟨P, 1, none⟩ x1).setCell ⟨P, 2, none⟩ x2).setCell ⟨P, 3, none⟩ x3).setCell ⟨P, 4, none⟩ x4).setCell ⟨P, 5, none⟩ x5).setCell ⟨P, 6, none⟩ x6) P #[x0, x1, x2, x3, x4, x5, x6] := by simpa using pb_set h5 6 x6
 exact h6
theorem below_one {w W : World} {P : Nat} (h : Below w.heap.size w W) (hP : w.heap.size ≤ P) (k : Nat) (x : Value) : Below w.heap.size w (W.setCell ⟨P, k, none⟩ x) :=
 ⟨h.os, h.tape, h.output, Nat.le_trans h.size (Nat.le_of_eq (by simp)), fun j hj => (Below.heap_setCell _ _ _ _ (by show j ≠ P; omega)).trans (h.block j hj)⟩
theorem below_seven {w W : World} {P : Nat} (h : Below w.heap.size w W) (hP : w.heap.size ≤ P) (x0 x1 x2 x3 x4 x5 x6 : Value) :
  Below w.heap.size w (((((((W.setCell ⟨P, 0, none⟩ x0).setCell ⟨P, 1, none⟩ x1).setCell ⟨P, 2, none⟩ x2).setCell ⟨P, 3, none⟩ x3).setCell ⟨P, 4, none⟩ x4).setCell ⟨P, 5, none⟩ x5).setCell ⟨P, 6, none⟩ x6) :=
 below_one (below_one (below_one (below_one (below_one (below_one (below_one h hP 0 x0) hP 1 x1) hP 2 x2) hP 3 x3) hP 4 x4) hP 5 x5) hP 6 x6
structure PcC (w : World) (P : Nat) (c0 c1 c2 c3 c4 c5 : Bs) (dv : Value) (W : World) : Prop where
 pb : PB W P #[.string (mk c0), .string (mk c1), .string (mk c2), .string (mk c3), .string (mk c4), .string (mk c5), dv]
 bel : Below w.heap.size w W
theorem pcc_cells {w : World} {P : Nat} {c0 c1 c2 c3 c4 c5 : Bs} {dv : Value} {W : World} (h : PcC w P c0 c1 c2 c3 c4 c5 dv W) :
  W.cell? ⟨P, 0, none⟩ = some (.string (mk c0)) ∧ W.cell? ⟨P, 1, none⟩ = some (.string (mk c1)) ∧ W.cell? ⟨P, 2, none⟩ = some (.string (mk c2)) ∧ W.cell? ⟨P, 3, none⟩ = some (.string (mk c3)) ∧ W.cell? ⟨P, 4, none⟩ = some (.string (mk c4)) ∧ W.cell? ⟨P, 5, none⟩ = some (.string (mk c5)) ∧ W.cell? ⟨P, 6, none⟩ = some dv := by
 refine ⟨?_, ?_, ?_, ?_, ?_, ?_, ?_⟩ <;> (rw [Lib.cell_of_heap h.pb]; rfl)
theorem pcc_drew {w : World} {P : Nat} {c0 c1 c2 c3 c4 c5 : Bs} {dv : Value} {W : World} (h : PcC w P c0 c1 c2 c3 c4 c5 dv W) : PcC w P c0 c1 c2 c3 c4 c5 dv W.drew := ⟨h.pb, h.bel.trans (below_drewn (w := W) 1)⟩
theorem pcc_seven {w : World} {P : Nat} {c0 c1 c2 c3 c4 c5 : Bs} {dv : Value} {W : World} (h : PcC w P c0 c1 c2 c3 c4 c5 dv W) (hP : w.heap.size ≤ P) : PcC w P c0 c1 c2 c3 c4 c5 dv (((((((W.setCell ⟨P, 0, none⟩ (.string (mk c0))).setCell ⟨P, 1, none⟩ (.string (mk c1))).setCell ⟨P, 2, none⟩ (.string (mk c2))).setCell ⟨P, 3, none⟩ (.string (mk c3))).setCell ⟨P, 4, none⟩ (.string (mk c4))).setCell ⟨P, 5, none⟩ (.string (mk c5))).setCell ⟨P, 6, none⟩ dv) :=
 ⟨pb_seven h.pb _ _ _ _ _ _ _, below_seven h.bel hP _ _ _ _ _ _ _⟩
set_option maxRecDepth 100000 in
set_option maxHeartbeats 2000000 in
theorem cut_long (a : Addr) (n cap : Nat) (w : World) (bs : Bs) (hR : Rds w (.slice (some a) n cap) bs) (hb : n = bs.length) (hcap : n ≤ cap) (hn : 60 ≤ n) (hE : Env w) (hS : EvS w) (h3 : 9 < w.heap.size) (hnn : n ≤ 100000) :
  Calls Tryz.prog 143 #[.slice (some a) n cap] w fun r w' => Below w.heap.size w w' ∧ CutR (.slice (some a) n cap) bs r := by
 have h0 : 3 < w.heap.size := by omega
 have hi : ¬ (n : Int) < 60 := by omega
 have e0 := hE.cell 0 (by decide)
 have e1 := hE.cell 1 (by decide)
 have e2 := hE.cell 2 (by decide)
 have e3 := hE.cell 3 (by decide)
 have e4 := hE.cell 4 (by decide)
 have e5 := hE.cell 5 (by decide)
 dsimp only [wids, List.getD] at e0 e1 e2 e3 e4 e5
 have u0 : (16 : Int) ≤ (cap : Int) := by omega
 have x0 : ∀ W, (Instr.index 236 (.agg #[.int .i64 16, .int .i64 12, .int .i64 6, .int .i64 6, .int .i64 8, .int .i64 10]) (.int .i64 0)).run Tryz.prog W = .ok (.int .i64 16) W := fun _ => by kernel_rfl
 have r0 := fun W (h : Rds W (.slice (some a) n cap) bs) => rds_part h hb 0 16 cap (by omega)
 rw [addr_zero, List.drop_zero] at r0
 have b0 : (bs.take 16).length ≤ 100000 := by rw [List.length_take]; omega
 have x1 : ∀ W, (Instr.index 236 (.agg #[.int .i64 16, .int .i64 12, .int .i64 6, .int .i64 6, .int .i64 8, .int .i64 10]) (.int .i64 1)).run Tryz.prog W = .ok (.int .i64 12) W := fun _ => by kernel_rfl
 have r1 := fun W (h : Rds W (.slice (some a) n cap) bs) => rds_part h hb 16 12 (cap - 16) (by omega)
 rw [addr_pos a 16 (by decide)] at r1
 have t1 : ¬ cap = 16 := by omega
 have u1 : (28 : Int) ≤ (cap : Int) := by omega
 have b1 : ((bs.drop 16).take 12).length ≤ 100000 := by rw [List.length_take]; omega
 have x2 : ∀ W, (Instr.index 236 (.agg #[.int .i64 16, .int .i64 12, .int .i64 6, .int .i64 6, .int .i64 8, .int .i64 10]) (.int .i64 2)).run Tryz.prog W = .ok (.int .i64 6) W := fun _ => by kernel_rfl
 have r2 := fun W (h : Rds W (.slice (some a) n cap) bs) => rds_part h hb 28 6 (cap - 28) (by omega)
 rw [addr_pos a 28 (by decide)] at r2
 have t2 : ¬ cap = 28 := by omega
 have u2 : (34 : Int) ≤ (cap : Int) := by omega
 have b2 : ((bs.drop 28).take 6).length ≤ 100000 := by rw [List.length_take]; omega
 have x3 : ∀ W, (Instr.index 236 (.agg #[.int .i64 16, .int .i64 12, .int .i64 6, .int .i64 6, .int .i64 8, .int .i64 10]) (.int .i64 3)).run Tryz.prog W = .ok (.int .i64 6) W := fun _ => by kernel_rfl
 have r3 := fun W (h : Rds W (.slice (some a) n cap) bs) => rds_part h hb 34 6 (cap - 34) (by omega)
 rw [addr_pos a 34 (by decide)] at r3
 have t3 : ¬ cap = 34 := by omega
 have u3 : (40 : Int) ≤ (cap : Int) := by omega
 have b3 : ((bs.drop 34).take 6).length ≤ 100000 := by rw [List.length_take]; omega
 have x4 : ∀ W, (Instr.index 236 (.agg #[.int .i64 16, .int .i64 12, .int .i64 6, .int .i64 6, .int .i64 8, .int .i64 10]) (.int .i64 4)).run Tryz.prog W = .ok (.int .i64 8) W := fun _ => by kernel_rfl
 have r4 := fun W (h : Rds W (.slice (some a) n cap) bs) => rds_part h hb 40 8 (cap - 40) (by omega)
 rw [addr_pos a 40 (by decide)] at r4
 have t4 : ¬ cap = 40 := by omega
 have u4 : (48 : Int) ≤ (cap : Int) := by omega
 have b4 : ((bs.drop 40).take 8).length ≤ 100000 := by rw [List.length_take]; omega
 have x5 : ∀ W, (Instr.index 236 (.agg #[.int .i64 16, .int .i64 12, .int .i64 6, .int .i64 6, .int .i64 8, .int .i64 10]) (.int .i64 5)).run Tryz.prog W = .ok (.int .i64 10) W := fun _ => by kernel_rfl
 have r5 := fun W (h : Rds W (.slice (some a) n cap) bs) => rds_part h hb 48 10 (cap - 48) (by omega)
 rw [addr_pos a 48 (by decide)] at r5
 have t5 : ¬ cap = 48 := by omega
 have u5 : (58 : Int) ≤ (cap : Int) := by omega
 have b5 : ((bs.drop 48).take 10).length ≤ 100000 := by rw [List.length_take]; omega
 obtain ⟨W0, hW0⟩ : ∃ W, W = w.alloc (.cells #[.string ⟨#[]⟩, .string ⟨#[]⟩, .string ⟨#[]⟩, .string ⟨#[]⟩, .string ⟨#[]⟩, .string ⟨#[]⟩, .slice none 0 0] 221) := ⟨_, rfl⟩
 have hP0 : PB W0 w.heap.size #[.string ⟨#[]⟩, .string ⟨#[]⟩, .string ⟨#[]⟩, .string ⟨#[]⟩, .string ⟨#[]⟩, .string ⟨#[]⟩, .slice none 0 0] := by rw [hW0]; exact heap_alloc_new w _
 have hK0 : Kp w W0 w.heap.size (.slice (some a) n cap) bs := by
  have hb0 : Below w.heap.size w W0 := by rw [hW0]; exact (Below.refl _ _).alloc (Nat.le_refl _) _
  exact ⟨hR.below hb0, hb0, Nat.le_refl _⟩
 have HW0 := hide' hW0
 clear hW0
 have HB := hide' hb
 clear hb
 go_enter Tryz.func143, Tryz.ntmps143
 go_wp2
 rw [← HW0.out]
 clear HW0 e0 e1 e2 e3 e4 e5
 refine wp_loop_rounds 7 ?_
 rw [rounds_succ]
 have cv0 := rds_str (r0 _ hK0.rds)
 have c0 : W0.cell? ⟨w.heap.size, 0, none⟩ = some (.string ⟨#[]⟩) := by rw [Lib.cell_of_heap hP0]; rfl
 have z0 : W0.frozen? ⟨w.heap.size, 0, none⟩ = false := Lib.frozen_of_heap hP0 0
 go_wp2_with fail
 refine (trim_any _ _ b0).mono ?_
 rintro e w' ⟨rfl, he⟩
 rw [he]
 clear he w'
 go_wp2_with fail
 have hP1 := pb_set hP0 0 (.string (mk (trimR (bs.take 16))))
 have hK1 := hK0.set hR 0 (.string (mk (trimR (bs.take 16))))
 clear cv0 c0 z0 hP0 hK0 x0 r0 b0
 generalize W0.setCell ⟨w.heap.size, 0, none⟩ (.string (mk (trimR (bs.take 16)))) = W1 at hP1 hK1 ⊢
 rw [rounds_succ]
 have cv1 := rds_str (r1 _ hK1.rds)
 have c1 : W1.cell? ⟨w.heap.size, 1, none⟩ = some (.string ⟨#[]⟩) := by rw [Lib.cell_of_heap hP1]; rfl
 have z1 : W1.frozen? ⟨w.heap.size, 1, none⟩ = false := Lib.frozen_of_heap hP1 1
 go_wp2_with fail
 refine (trim_any _ _ b1).mono ?_
 rintro e w' ⟨rfl, he⟩
 rw [he]
 clear he w'
 go_wp2_with fail
 have hP2 := pb_set hP1 1 (.string (mk (trimR ((bs.drop 16).take 12))))
 have hK2 := hK1.set hR 1 (.string (mk (trimR ((bs.drop 16).take 12))))
 clear cv1 c1 z1 hP1 hK1 x1 r1 b1
 generalize W1.setCell ⟨w.heap.size, 1, none⟩ (.string (mk (trimR ((bs.drop 16).take 12)))) = W2 at hP2 hK2 ⊢
 rw [rounds_succ]
 have cv2 := rds_str (r2 _ hK2.rds)
 have c2 : W2.cell? ⟨w.heap.size, 2, none⟩ = some (.string ⟨#[]⟩) := by rw [Lib.cell_of_heap hP2]; rfl
 have z2 : W2.frozen? ⟨w.heap.size, 2, none⟩ = false := Lib.frozen_of_heap hP2 2
 go_wp2_with fail
 refine (trim_any _ _ b2).mono ?_
 rintro e w' ⟨rfl, he⟩
 rw [he]
 clear he w'
 go_wp2_with fail
 have hP3 := pb_set hP2 2 (.string (mk (trimR ((bs.drop 28).take 6))))
 have hK3 := hK2.set hR 2 (.string (mk (trimR ((bs.drop 28).take 6))))
 clear cv2 c2 z2 hP2 hK2 x2 r2 b2
 generalize W2.setCell ⟨w.heap.size, 2, none⟩ (.string (mk (trimR ((bs.drop 28).take 6)))) = W3 at hP3 hK3 ⊢
 rw [rounds_succ]
 have cv3 := rds_str (r3 _ hK3.rds)
 have c3 : W3.cell? ⟨w.heap.size, 3, none⟩ = some (.string ⟨#[]⟩) := by rw [Lib.cell_of_heap hP3]; rfl
 have z3 : W3.frozen? ⟨w.heap.size, 3, none⟩ = false := Lib.frozen_of_heap hP3 3
 go_wp2_with fail
 refine (trim_any _ _ b3).mono ?_
 rintro e w' ⟨rfl, he⟩
 rw [he]
 clear he w'
 go_wp2_with fail
 have hP4 := pb_set hP3 3 (.string (mk (trimR ((bs.drop 34).take 6))))
 have hK4 := hK3.set hR 3 (.string (mk (trimR ((bs.drop 34).take 6))))
 clear cv3 c3 z3 hP3 hK3 x3 r3 b3
 generalize W3.setCell ⟨w.heap.size, 3, none⟩ (.string (mk (trimR ((bs.drop 34).take 6)))) = W4 at hP4 hK4 ⊢
 rw [rounds_succ]
 have cv4 := rds_str (r4 _ hK4.rds)
 have c4 : W4.cell? ⟨w.heap.size, 4, none⟩ = some (.string ⟨#[]⟩) := by rw [Lib.cell_of_heap hP4]; rfl
 have z4 : W4.frozen? ⟨w.heap.size, 4, none⟩ = false := Lib.frozen_of_heap hP4 4
 go_wp2_with fail
 refine (trim_any _ _ b4).mono ?_
 rintro e w' ⟨rfl, he⟩
 rw [he]
 clear he w'
 go_wp2_with fail
 have hP5 := pb_set hP4 4 (.string (mk (trimR ((bs.drop 40).take 8))))
 have hK5 := hK4.set hR 4 (.string (mk (trimR ((bs.drop 40).take 8))))
 clear cv4 c4 z4 hP4 hK4 x4 r4 b4
 generalize W4.setCell ⟨w.heap.size, 4, none⟩ (.string (mk (trimR ((bs.drop 40).take 8)))) = W5 at hP5 hK5 ⊢
 rw [rounds_succ]
 have cv5 := rds_str (r5 _ hK5.rds)
 have c5 : W5.cell? ⟨w.heap.size, 5, none⟩ = some (.string ⟨#[]⟩) := by rw [Lib.cell_of_heap hP5]; rfl
 have z5 : W5.frozen? ⟨w.heap.size, 5, none⟩ = false := Lib.frozen_of_heap hP5 5
 go_wp2_with fail
 refine (trim_any _ _ b5).mono ?_
 rintro e w' ⟨rfl, he⟩
 rw [he]
 clear he w'
 go_wp2_with fail
 have hP6 := pb_set hP5 5 (.string (mk (trimR ((bs.drop 48).take 10))))
 have hK6 := hK5.set hR 5 (.string (mk (trimR ((bs.drop 48).take 10))))
 clear cv5 c5 z5 hP5 hK5 x5 r5 b5
 generalize W5.setCell ⟨w.heap.size, 5, none⟩ (.string (mk (trimR ((bs.drop 48).take 10)))) = W6 at hP6 hK6 ⊢
 have c5 : W6.cell? ⟨w.heap.size, 5, none⟩ = some (.string (mk (trimR ((bs.drop 48).take 10)))) := by rw [Lib.cell_of_heap hP6]; rfl
 have hS6 := hS.below hK6.bel (by omega)
 have h36 : 9 < W6.heap.size := Nat.lt_of_lt_of_le h3 hK6.bel.size
 have qv := value_any (mk (trimR ((bs.drop 48).take 10))) W6 (by
  rw [mk_size]
  unfold trimR Lib.trimRightB
  rw [List.length_reverse]
  refine Nat.le_trans (List.dropWhile_sublist _).length_le ?_
  rw [List.length_reverse, List.length_take]
  omega) hS6 h36
 rw [tl_mk (trimR ((bs.drop 48).take 10))] at qv
 rw [rounds_succ]
 go_wp2_with fail
 refine qv.mono ?_
 rintro r w7 ⟨hb7, hv⟩
 clear qv c5
 have hPL : PB W6 w.heap.size #[.string (mk (trimR (bs.take 16))), .string (mk (trimR ((bs.drop 16).take 12))), .string (mk (trimR ((bs.drop 28).take 6))), .string (mk (trimR ((bs.drop 34).take 6))), .string (mk (trimR ((bs.drop 40).take 8))), .string (mk (trimR ((bs.drop 48).take 10))), .slice none 0 0] := hP6
 have hP7 : PB w7 w.heap.size #[.string (mk (trimR (bs.take 16))), .string (mk (trimR ((bs.drop 16).take 12))), .string (mk (trimR ((bs.drop 28).take 6))), .string (mk (trimR ((bs.drop 34).take 6))), .string (mk (trimR ((bs.drop 40).take 8))), .string (mk (trimR ((bs.drop 48).take 10))), .slice none 0 0] := (hb7.block _ (lt_of_block hPL)).trans hPL
 have hK7 : Below w.heap.size w w7 := hK6.bel.trans (hb7.mono hK6.bel.size)
 have hcut := cutP_three bs (by rw [← HB.out]; exact hn)
 clear hP6 hPL hb7 hK6 hS6 h36 u0 u1 u2 u3 u4 u5 t1 t2 t3 t4 t5 hS hE
 have hten := fun n h => valP_ten (trimR ((bs.drop 48).take 10)) (Nat.le_trans (trimR_len _) (by rw [List.length_take]; omega)) n h
 generalize trimR (bs.take 16) = c0 at hP7 hcut ⊢
 generalize trimR ((bs.drop 16).take 12) = c1 at hP7 hcut ⊢
 generalize trimR ((bs.drop 28).take 6) = c2 at hP7 hcut ⊢
 generalize trimR ((bs.drop 34).take 6) = c3 at hP7 hcut ⊢
 generalize trimR ((bs.drop 40).take 8) = c4 at hP7 hcut ⊢
 generalize trimR ((bs.drop 48).take 10) = c5 at hP7 hcut hv hten ⊢
 have f0 := Lib.frozen_of_heap hP7 0
 have f1 := Lib.frozen_of_heap hP7 1
 have f2 := Lib.frozen_of_heap hP7 2
 have f3 := Lib.frozen_of_heap hP7 3
 have f4 := Lib.frozen_of_heap hP7 4
 have f5 := Lib.frozen_of_heap hP7 5
 have f6 := Lib.frozen_of_heap hP7 6
 have k0 : w7.cell? ⟨w.heap.size, 0, none⟩ = some (.string (mk c0)) := by rw [Lib.cell_of_heap hP7]; rfl
 have k1 : w7.cell? ⟨w.heap.size, 1, none⟩ = some (.string (mk c1)) := by rw [Lib.cell_of_heap hP7]; rfl
 have k2 : w7.cell? ⟨w.heap.size, 2, none⟩ = some (.string (mk c2)) := by rw [Lib.cell_of_heap hP7]; rfl
 have k3 : w7.cell? ⟨w.heap.size, 3, none⟩ = some (.string (mk c3)) := by rw [Lib.cell_of_heap hP7]; rfl
 have k4 : w7.cell? ⟨w.heap.size, 4, none⟩ = some (.string (mk c4)) := by rw [Lib.cell_of_heap hP7]; rfl
 have k5 : w7.cell? ⟨w.heap.size, 5, none⟩ = some (.string (mk c5)) := by rw [Lib.cell_of_heap hP7]; rfl
 have k6 : w7.cell? ⟨w.heap.size, 6, none⟩ = some (.slice none 0 0) := by rw [Lib.cell_of_heap hP7]; rfl
 have HP7 := hide' hP7
 have HK7 := hide' hK7
 have HCT := hide' hcut
 have HRR := hide' hR
 have hc60 : 60 ≤ cap := by omega
 clear hP7 hK7 hcut hR
 have hi60 : (60 : Int) ≤ (n : Int) := by omega
 rcases hv with ⟨sz, hsz, rfl⟩ | ⟨hsz, rfl⟩
 ·have hlt := hten sz hsz
  have HZ := hide' hsz
  have qe := fun w => even_any sz (by omega) w
  obtain ⟨E, hEv⟩ : ∃ E, E = evn sz := ⟨_, rfl⟩
  rw [← hEv] at qe
  have hEs : sz ≤ E ∧ E ≤ sz + 1 := by rw [hEv]; unfold evn; omega
  have HEv := hide' hEv
  clear hsz hten hEv
  obtain ⟨m, hm⟩ : ∃ m, m = n - 60 := ⟨_, rfl⟩
  by_cases hfar : E ≤ n - 60
  ·have g1 : ¬ ((n - 60 : Nat) : Int) < (E : Int) := by omega
   by_cases hcc : cap = 60
   ·have hn60 : n = 60 := by omega
    have hE0 : E = 0 := by omega
    have hs0 : sz = 0 := by omega
    subst hcc hE0 hs0
    rw [hn60] at HB HRR hi60 hi ⊢
    clear hm g1 hfar hEs hlt hcap hn hnn hn60
    have qe0 : ∀ w, Calls Tryz.prog 167 #[.int .i64 0] w fun r w' => r = .returned (.int .i64 0) ∧ w' = w := qe
    go_wp2_with (go_at_call 167; refine (qe0 _).mono ?_; rintro e w' ⟨rfl, rfl⟩)
    have hC8 : PcC w w.heap.size c0 c1 c2 c3 c4 c5 (.slice (some a) 0 0) (w'.setCell ⟨w.heap.size, 6, none⟩ (.slice (some a) 0 0)) := ⟨by simpa using pb_set HP7.out 6 (.slice (some a) 0 0), below_one HK7.out (Nat.le_refl _) 6 _⟩
    clear k0 k1 k2 k3 k4 k5 k6 f0 f1 f2 f3 f4 f5 f6 HP7 HK7
    generalize w'.setCell ⟨w.heap.size, 6, none⟩ (.slice (some a) 0 0) = W8 at hC8 ⊢
    have hC := pcc_drew hC8
    refine wp_region_class (C := PcC w w.heap.size c0 c1 c2 c3 c4 c5 (.slice (some a) 0 0)) (by kernel_rfl) ?_
    (refine wpAnyC_take (i := 0) (v := ?_) hC rfl (by kernel_rfl) (by kernel_rfl) (by kernel_rfl) (fun _ _ _ h => h) (Or.inl ⟨by kernel_rfl, ?_⟩) ?_; rotate_left; (intro w hc; obtain ⟨k0, k1, k2, k3, k4, k5, k6⟩ := pcc_cells hc; clear hc; go_simp; try with_reducible rfl))
    (refine wpAnyC_take (i := 1) (v := ?_) hC rfl (by kernel_rfl) (by kernel_rfl) (by kernel_rfl) (fun _ _ _ h => h) (Or.inl ⟨by kernel_rfl, ?_⟩) ?_; rotate_left; (intro w hc; obtain ⟨k0, k1, k2, k3, k4, k5, k6⟩ := pcc_cells hc; clear hc; go_simp; try with_reducible rfl))
    (refine wpAnyC_take (i := 2) (v := ?_) hC rfl (by kernel_rfl) (by kernel_rfl) (by kernel_rfl) (fun _ _ _ h => h) (Or.inl ⟨by kernel_rfl, ?_⟩) ?_; rotate_left; (intro w hc; obtain ⟨k0, k1, k2, k3, k4, k5, k6⟩ := pcc_cells hc; clear hc; go_simp; try with_reducible rfl))
    refine wpAnyC_one (i := 3) (by kernel_rfl) (wpOp_wanted rfl (by rfl) ?_)
    go_simp
    refine (qe0 _).mono ?_
    rintro e wz ⟨rfl, hez⟩
    subst hez
    dsimp only
    refine ⟨hC, ?_⟩
    (refine wpAnyC_take (i := 4) (v := ?_) hC rfl (by kernel_rfl) (by kernel_rfl) (by kernel_rfl) (fun _ _ _ h => h) (Or.inl ⟨by kernel_rfl, ?_⟩) ?_; rotate_left; (intro w hc; obtain ⟨k0, k1, k2, k3, k4, k5, k6⟩ := pcc_cells hc; clear hc; go_simp; try with_reducible rfl))
    obtain ⟨k0, k1, k2, k3, k4, k5, k6⟩ := pcc_cells hC8
    have f0 := Lib.frozen_of_heap hC8.pb 0
    have f1 := Lib.frozen_of_heap hC8.pb 1
    have f2 := Lib.frozen_of_heap hC8.pb 2
    have f3 := Lib.frozen_of_heap hC8.pb 3
    have f4 := Lib.frozen_of_heap hC8.pb 4
    have f5 := Lib.frozen_of_heap hC8.pb 5
    have f6 := Lib.frozen_of_heap hC8.pb 6
    have hX := pcc_drew (pcc_seven hC8 (Nat.le_refl _))
    refine wpAnyC_one (i := 5) (by kernel_rfl) (wpOp_wanted rfl (by rfl) ?_)
    go_simp
    clear k0 k1 k2 k3 k4 k5 k6 f0 f1 f2 f3 f4 f5 f6 hC hC8
    revert hX
    generalize (((((((W8.setCell ⟨w.heap.size, 0, none⟩ (.string (mk c0))).setCell ⟨w.heap.size, 1, none⟩ (.string (mk c1))).setCell ⟨w.heap.size, 2, none⟩ (.string (mk c2))).setCell ⟨w.heap.size, 3, none⟩ (.string (mk c3))).setCell ⟨w.heap.size, 4, none⟩ (.string (mk c4))).setCell ⟨w.heap.size, 5, none⟩ (.string (mk c5))).setCell ⟨w.heap.size, 6, none⟩ (.slice (some a) 0 0)).drew = X
    intro hX
    refine wpAnyC_one (i := 6) (by kernel_rfl) (wpOp_wanted rfl (by rfl) ?_)
    go_simp
    refine wpAnyC_one (i := 7) (by kernel_rfl) (wpOp_wanted rfl (by rfl) ?_)
    go_simp
    refine wpAnyC_done (by kernel_rfl) ?_ _
    obtain ⟨k0, k1, k2, k3, k4, k5, k6⟩ := pcc_cells hX
    go_wp2
    refine bodyPost_ret (by simp [results, Tryz.results143, go_sem, k0, k1, k2, k3, k4, k5, k6]; rfl) rfl ?_
    refine ⟨hX.bel, ?_⟩
    unfold CutR
    have hd60 : bs.drop 60 = [] := List.length_eq_zero_iff.1 (by rw [List.length_drop, ← HB.out])
    rw [(HCT.out.2 0 HZ.out).1 (by rw [← HEv.out]; exact Nat.zero_le _), hd60]
    refine ⟨c2, c3, c4, c5, _, _, rfl, fun WW hRX => ⟨⟨_, _, _, rfl, rfl, Nat.le_refl _, ?_⟩, ⟨_, _, _, rfl, by simp, Nat.le_refl _, ?_⟩⟩⟩
    ·exact rds_empty _ _ _
    ·rw [List.drop_nil]; exact rds_empty _ _ _
   ·have g2 : (sz : Int) ≤ ((cap - 60 : Nat) : Int) := by omega
    go_wp2_with (go_at_call 167; refine (qe _).mono ?_; rintro e w' ⟨rfl, rfl⟩)
    have hC8 : PcC w w.heap.size c0 c1 c2 c3 c4 c5 (.slice (some ⟨a.block, a.off + 60, none⟩) sz sz) (w'.setCell ⟨w.heap.size, 6, none⟩ (.slice (some ⟨a.block, a.off + 60, none⟩) sz sz)) := ⟨by simpa using pb_set HP7.out 6 (.slice (some ⟨a.block, a.off + 60, none⟩) sz sz), below_one HK7.out (Nat.le_refl _) 6 _⟩
    clear k0 k1 k2 k3 k4 k5 k6 f0 f1 f2 f3 f4 f5 f6 HP7 HK7
    generalize w'.setCell ⟨w.heap.size, 6, none⟩ (.slice (some ⟨a.block, a.off + 60, none⟩) sz sz) = W8 at hC8 ⊢
    have hC := pcc_drew hC8
    refine wp_region_class (C := PcC w w.heap.size c0 c1 c2 c3 c4 c5 (.slice (some ⟨a.block, a.off + 60, none⟩) sz sz)) (by kernel_rfl) ?_
    (refine wpAnyC_take (i := 0) (v := ?_) hC rfl (by kernel_rfl) (by kernel_rfl) (by kernel_rfl) (fun _ _ _ h => h) (Or.inl ⟨by kernel_rfl, ?_⟩) ?_; rotate_left; (intro w hc; obtain ⟨k0, k1, k2, k3, k4, k5, k6⟩ := pcc_cells hc; clear hc; go_simp; try with_reducible rfl))
    (refine wpAnyC_take (i := 1) (v := ?_) hC rfl (by kernel_rfl) (by kernel_rfl) (by kernel_rfl) (fun _ _ _ h => h) (Or.inl ⟨by kernel_rfl, ?_⟩) ?_; rotate_left; (intro w hc; obtain ⟨k0, k1, k2, k3, k4, k5, k6⟩ := pcc_cells hc; clear hc; go_simp; try with_reducible rfl))
    (refine wpAnyC_take (i := 2) (v := ?_) hC rfl (by kernel_rfl) (by kernel_rfl) (by kernel_rfl) (fun _ _ _ h => h) (Or.inl ⟨by kernel_rfl, ?_⟩) ?_; rotate_left; (intro w hc; obtain ⟨k0, k1, k2, k3, k4, k5, k6⟩ := pcc_cells hc; clear hc; go_simp; try with_reducible rfl))
    refine wpAnyC_one (i := 3) (by kernel_rfl) (wpOp_wanted rfl (by rfl) ?_)
    go_simp
    refine (qe _).mono ?_
    rintro e wz ⟨rfl, hez⟩
    subst hez
    dsimp only
    refine ⟨hC, ?_⟩
    have g5 : (E : Int) ≤ ((n - 60 : Nat) : Int) := by omega
    (refine wpAnyC_take (i := 4) (v := ?_) hC rfl (by kernel_rfl) (by kernel_rfl) (by kernel_rfl) (fun _ _ _ h => h) (Or.inl ⟨by kernel_rfl, ?_⟩) ?_; rotate_left; (intro w hc; clear hc; go_simp; try with_reducible rfl))
    obtain ⟨k0, k1, k2, k3, k4, k5, k6⟩ := pcc_cells hC8
    have f0 := Lib.frozen_of_heap hC8.pb 0
    have f1 := Lib.frozen_of_heap hC8.pb 1
    have f2 := Lib.frozen_of_heap hC8.pb 2
    have f3 := Lib.frozen_of_heap hC8.pb 3
    have f4 := Lib.frozen_of_heap hC8.pb 4
    have f5 := Lib.frozen_of_heap hC8.pb 5
    have f6 := Lib.frozen_of_heap hC8.pb 6
    have hX := pcc_drew (pcc_seven hC8 (Nat.le_refl _))
    refine wpAnyC_one (i := 5) (by kernel_rfl) (wpOp_wanted rfl (by rfl) ?_)
    go_simp
    clear k0 k1 k2 k3 k4 k5 k6 f0 f1 f2 f3 f4 f5 f6 hC hC8
    revert hX
    generalize (((((((W8.setCell ⟨w.heap.size, 0, none⟩ (.string (mk c0))).setCell ⟨w.heap.size, 1, none⟩ (.string (mk c1))).setCell ⟨w.heap.size, 2, none⟩ (.string (mk c2))).setCell ⟨w.heap.size, 3, none⟩ (.string (mk c3))).setCell ⟨w.heap.size, 4, none⟩ (.string (mk c4))).setCell ⟨w.heap.size, 5, none⟩ (.string (mk c5))).setCell ⟨w.heap.size, 6, none⟩ (.slice (some ⟨a.block, a.off + 60, none⟩) sz sz)).drew = X
    intro hX
    refine wpAnyC_one (i := 6) (by kernel_rfl) (wpOp_wanted rfl (by rfl) ?_)
    go_simp
    refine wpAnyC_one (i := 7) (by kernel_rfl) (wpOp_wanted rfl (by rfl) ?_)
    go_simp
    refine wpAnyC_done (by kernel_rfl) ?_ _
    obtain ⟨k0, k1, k2, k3, k4, k5, k6⟩ := pcc_cells hX
    go_wp2
    ·refine bodyPost_ret (by simp [results, Tryz.results143, go_sem, k0, k1, k2, k3, k4, k5, k6]; rfl) rfl ?_
     refine ⟨hX.bel, ?_⟩
     unfold CutR
     have hlen60 : (bs.drop 60).length = n - 60 := by rw [List.length_drop, ← HB.out]
     rw [(HCT.out.2 sz HZ.out).1 (by rw [hlen60, ← HEv.out]; exact hfar)]
     refine ⟨c2, c3, c4, c5, _, _, rfl, fun WW hRX => ⟨⟨_, _, _, rfl, by rw [List.length_take, hlen60]; omega, Nat.le_refl _, ?_⟩, ?_⟩⟩
     ·have := rds_part hRX HB.out 60 sz sz (by omega)
      rw [addr_pos a 60 (by decide)] at this
      exact this
     ·have e0 : n - 60 - E = 0 := by omega
      rw [e0]
      refine ⟨_, _, _, rfl, by rw [List.length_drop, hlen60, ← HEv.out]; omega, Nat.zero_le _, ?_⟩
      have : (bs.drop 60).drop (evn sz) = [] := List.length_eq_zero_iff.1 (by rw [List.length_drop, hlen60, ← HEv.out]; exact e0)
      rw [this]
      exact rds_empty _ _ _
    ·refine bodyPost_ret (by simp [results, Tryz.results143, go_sem, k0, k1, k2, k3, k4, k5, k6]; rfl) rfl ?_
     refine ⟨hX.bel, ?_⟩
     unfold CutR
     have hlen60 : (bs.drop 60).length = n - 60 := by rw [List.length_drop, ← HB.out]
     rw [(HCT.out.2 sz HZ.out).1 (by rw [hlen60, ← HEv.out]; exact hfar)]
     refine ⟨c2, c3, c4, c5, _, _, rfl, fun WW hRX => ⟨⟨_, _, _, rfl, by rw [List.length_take, hlen60]; omega, Nat.le_refl _, ?_⟩, ?_⟩⟩
     ·have := rds_part hRX HB.out 60 sz sz (by omega)
      rw [addr_pos a 60 (by decide)] at this
      exact this
     ·refine ⟨_, _, _, rfl, by rw [List.length_drop, hlen60, ← HEv.out], by omega, ?_⟩
      have := rds_part hRX HB.out (60 + E) (n - 60 - E) (cap - 60 - E) (by omega)
      rw [addr_pos a (60 + E) (by omega), ← List.drop_drop, List.take_of_length_le (by rw [List.length_drop, hlen60]; omega), ← Nat.add_assoc, HEv.out] at this
      rw [HEv.out]
      exact this
  ·have hlen60 : (bs.drop 60).length = n - 60 := by rw [List.length_drop, ← HB.out]
   have hnone := (HCT.out.2 sz HZ.out).2 (by rw [hlen60, ← HEv.out]; exact hfar)
   have HN := hide' hnone
   have g1 : ((n - 60 : Nat) : Int) < (E : Int) := by omega
   clear hnone hlen60
   by_cases hcc : cap = 60
   ·go_wp2_with (go_at_call 167; refine (qe _).mono ?_; rintro e w' ⟨rfl, he⟩; rw [he]; clear he)
    have hX := pb_seven HP7.out (.string ⟨#[]⟩) (.string ⟨#[]⟩) (.string ⟨#[]⟩) (.string ⟨#[]⟩) (.string ⟨#[]⟩) (.string ⟨#[]⟩) (.slice none 0 0)
    have hBX := below_seven HK7.out (Nat.le_refl _) (.string ⟨#[]⟩) (.string ⟨#[]⟩) (.string ⟨#[]⟩) (.string ⟨#[]⟩) (.string ⟨#[]⟩) (.string ⟨#[]⟩) (.slice none 0 0)
    revert hX hBX
    generalize (((((((w7.setCell ⟨w.heap.size, 0, none⟩ (.string ⟨#[]⟩)).setCell ⟨w.heap.size, 1, none⟩ (.string ⟨#[]⟩)).setCell ⟨w.heap.size, 2, none⟩ (.string ⟨#[]⟩)).setCell ⟨w.heap.size, 3, none⟩ (.string ⟨#[]⟩)).setCell ⟨w.heap.size, 4, none⟩ (.string ⟨#[]⟩)).setCell ⟨w.heap.size, 5, none⟩ (.string ⟨#[]⟩)).setCell ⟨w.heap.size, 6, none⟩ (.slice none 0 0)) = X
    intro hX hBX
    have x0 : X.cell? ⟨w.heap.size, 0, none⟩ = some (.string ⟨#[]⟩) := by rw [Lib.cell_of_heap hX]; rfl
    have x1 : X.cell? ⟨w.heap.size, 1, none⟩ = some (.string ⟨#[]⟩) := by rw [Lib.cell_of_heap hX]; rfl
    have x2 : X.cell? ⟨w.heap.size, 2, none⟩ = some (.string ⟨#[]⟩) := by rw [Lib.cell_of_heap hX]; rfl
    have x3 : X.cell? ⟨w.heap.size, 3, none⟩ = some (.string ⟨#[]⟩) := by rw [Lib.cell_of_heap hX]; rfl
    have x4 : X.cell? ⟨w.heap.size, 4, none⟩ = some (.string ⟨#[]⟩) := by rw [Lib.cell_of_heap hX]; rfl
    have x5 : X.cell? ⟨w.heap.size, 5, none⟩ = some (.string ⟨#[]⟩) := by rw [Lib.cell_of_heap hX]; rfl
    have x6 : X.cell? ⟨w.heap.size, 6, none⟩ = some (.slice none 0 0) := by rw [Lib.cell_of_heap hX]; rfl
    refine bodyPost_ret (by simp [results, Tryz.results143, go_sem, x0, x1, x2, x3, x4, x5, x6]; rfl) rfl ?_
    refine ⟨hBX, ?_⟩
    unfold CutR
    rw [HN.out]
   ·go_wp2_with (go_at_call 167; refine (qe _).mono ?_; rintro e w' ⟨rfl, he⟩; rw [he]; clear he)
    have hX := pb_seven HP7.out (.string ⟨#[]⟩) (.string ⟨#[]⟩) (.string ⟨#[]⟩) (.string ⟨#[]⟩) (.string ⟨#[]⟩) (.string ⟨#[]⟩) (.slice none 0 0)
    have hBX := below_seven HK7.out (Nat.le_refl _) (.string ⟨#[]⟩) (.string ⟨#[]⟩) (.string ⟨#[]⟩) (.string ⟨#[]⟩) (.string ⟨#[]⟩) (.string ⟨#[]⟩) (.slice none 0 0)
    revert hX hBX
    generalize (((((((w7.setCell ⟨w.heap.size, 0, none⟩ (.string ⟨#[]⟩)).setCell ⟨w.heap.size, 1, none⟩ (.string ⟨#[]⟩)).setCell ⟨w.heap.size, 2, none⟩ (.string ⟨#[]⟩)).setCell ⟨w.heap.size, 3, none⟩ (.string ⟨#[]⟩)).setCell ⟨w.heap.size, 4, none⟩ (.string ⟨#[]⟩)).setCell ⟨w.heap.size, 5, none⟩ (.string ⟨#[]⟩)).setCell ⟨w.heap.size, 6, none⟩ (.slice none 0 0)) = X
    intro hX hBX
    have x0 : X.cell? ⟨w.heap.size, 0, none⟩ = some (.string ⟨#[]⟩) := by rw [Lib.cell_of_heap hX]; rfl
    have x1 : X.cell? ⟨w.heap.size, 1, none⟩ = some (.string ⟨#[]⟩) := by rw [Lib.cell_of_heap hX]; rfl
    have x2 : X.cell? ⟨w.heap.size, 2, none⟩ = some (.string ⟨#[]⟩) := by rw [Lib.cell_of_heap hX]; rfl
    have x3 : X.cell? ⟨w.heap.size, 3, none⟩ = some (.string ⟨#[]⟩) := by rw [Lib.cell_of_heap hX]; rfl
    have x4 : X.cell? ⟨w.heap.size, 4, none⟩ = some (.string ⟨#[]⟩) := by rw [Lib.cell_of_heap hX]; rfl
    have x5 : X.cell? ⟨w.heap.size, 5, none⟩ = some (.string ⟨#[]⟩) := by rw [Lib.cell_of_heap hX]; rfl
    have x6 : X.cell? ⟨w.heap.size, 6, none⟩ = some (.slice none 0 0) := by rw [Lib.cell_of_heap hX]; rfl
    refine bodyPost_ret (by simp [results, Tryz.results143, go_sem, x0, x1, x2, x3, x4, x5, x6]; rfl) rfl ?_
    refine ⟨hBX, ?_⟩
    unfold CutR
    rw [HN.out]
 ·clear hten
  have HZ := hide' hsz
  clear hsz
  by_cases hcc : cap = 60
  ·go_wp2_with fail
   have hX := pb_seven HP7.out (.string ⟨#[]⟩) (.string ⟨#[]⟩) (.string ⟨#[]⟩) (.string ⟨#[]⟩) (.string ⟨#[]⟩) (.string ⟨#[]⟩) (.slice none 0 0)
   have hBX := below_seven HK7.out (Nat.le_refl _) (.string ⟨#[]⟩) (.string ⟨#[]⟩) (.string ⟨#[]⟩) (.string ⟨#[]⟩) (.string ⟨#[]⟩) (.string ⟨#[]⟩) (.slice none 0 0)
   revert hX hBX
   generalize (((((((w7.setCell ⟨w.heap.size, 0, none⟩ (.string ⟨#[]⟩)).setCell ⟨w.heap.size, 1, none⟩ (.string ⟨#[]⟩)).setCell ⟨w.heap.size, 2, none⟩ (.string ⟨#[]⟩)).setCell ⟨w.heap.size, 3, none⟩ (.string ⟨#[]⟩)).setCell ⟨w.heap.size, 4, none⟩ (.string ⟨#[]⟩)).setCell ⟨w.heap.size, 5, none⟩ (.string ⟨#[]⟩)).setCell ⟨w.heap.size, 6, none⟩ (.slice none 0 0)) = X
   intro hX hBX
   have x0 : X.cell? ⟨w.heap.size, 0, none⟩ = some (.string ⟨#[]⟩) := by rw [Lib.cell_of_heap hX]; rfl
   have x1 : X.cell? ⟨w.heap.size, 1, none⟩ = some (.string ⟨#[]⟩) := by rw [Lib.cell_of_heap hX]; rfl
   have x2 : X.cell? ⟨w.heap.size, 2, none⟩ = some (.string ⟨#[]⟩) := by rw [Lib.cell_of_heap hX]; rfl
   have x3 : X.cell? ⟨w.heap.size, 3, none⟩ = some (.string ⟨#[]⟩) := by rw [Lib.cell_of_heap hX]; rfl
   have x4 : X.cell? ⟨w.heap.size, 4, none⟩ = some (.string ⟨#[]⟩) := by rw [Lib.cell_of_heap hX]; rfl
   have x5 : X.cell? ⟨w.heap.size, 5, none⟩ = some (.string ⟨#[]⟩) := by rw [Lib.cell_of_heap hX]; rfl
   have x6 : X.cell? ⟨w.heap.size, 6, none⟩ = some (.slice none 0 0) := by rw [Lib.cell_of_heap hX]; rfl
   refine bodyPost_ret (by simp [results, Tryz.results143, go_sem, x0, x1, x2, x3, x4, x5, x6]; rfl) rfl ?_
   refine ⟨hBX, ?_⟩
   unfold CutR
   rw [HCT.out.1 HZ.out]
  ·go_wp2_with fail
   have hX := pb_seven HP7.out (.string ⟨#[]⟩) (.string ⟨#[]⟩) (.string ⟨#[]⟩) (.string ⟨#[]⟩) (.string ⟨#[]⟩) (.string ⟨#[]⟩) (.slice none 0 0)
   have hBX := below_seven HK7.out (Nat.le_refl _) (.string ⟨#[]⟩) (.string ⟨#[]⟩) (.string ⟨#[]⟩) (.string ⟨#[]⟩) (.string ⟨#[]⟩) (.string ⟨#[]⟩) (.slice none 0 0)
   revert hX hBX
   generalize (((((((w7.setCell ⟨w.heap.size, 0, none⟩ (.string ⟨#[]⟩)).setCell ⟨w.heap.size, 1, none⟩ (.string ⟨#[]⟩)).setCell ⟨w.heap.size, 2, none⟩ (.string ⟨#[]⟩)).setCell ⟨w.heap.size, 3, none⟩ (.string ⟨#[]⟩)).setCell ⟨w.heap.size, 4, none⟩ (.string ⟨#[]⟩)).setCell ⟨w.heap.size, 5, none⟩ (.string ⟨#[]⟩)).setCell ⟨w.heap.size, 6, none⟩ (.slice none 0 0)) = X
   intro hX hBX
   have x0 : X.cell? ⟨w.heap.size, 0, none⟩ = some (.string ⟨#[]⟩) := by rw [Lib.cell_of_heap hX]; rfl
   have x1 : X.cell? ⟨w.heap.size, 1, none⟩ = some (.string ⟨#[]⟩) := by rw [Lib.cell_of_heap hX]; rfl
   have x2 : X.cell? ⟨w.heap.size, 2, none⟩ = some (.string ⟨#[]⟩) := by rw [Lib.cell_of_heap hX]; rfl
   have x3 : X.cell? ⟨w.heap.size, 3, none⟩ = some (.string ⟨#[]⟩) := by rw [Lib.cell_of_heap hX]; rfl
   have x4 : X.cell? ⟨w.heap.size, 4, none⟩ = some (.string ⟨#[]⟩) := by rw [Lib.cell_of_heap hX]; rfl
   have x5 : X.cell? ⟨w.heap.size, 5, none⟩ = some (.string ⟨#[]⟩) := by rw [Lib.cell_of_heap hX]; rfl
   have x6 : X.cell? ⟨w.heap.size, 6, none⟩ = some (.slice none 0 0) := by rw [Lib.cell_of_heap hX]; rfl
   refine bodyPost_ret (by simp [results, Tryz.results143, go_sem, x0, x1, x2, x3, x4, x5, x6]; rfl) rfl ?_
   refine ⟨hBX, ?_⟩
   unfold CutR
   rw [HCT.out.1 HZ.out]
theorem cut_any (v : Value) (bs : Bs) (w : World) (h : Bsl w v bs) (hE : Env w) (hS : EvS w) (h3 : 9 < w.heap.size) (hnn : bs.length ≤ 100000) : Calls Tryz.prog 143 #[v] w fun r w' => Below w.heap.size w w' ∧ CutR v bs r := by
 obtain ⟨a, n, cap, rfl, hn, hcap, hR⟩ := h
 by_cases hl : n < 60
 ·refine (cut_short (some a) n cap w hl).mono ?_
  rintro r w' ⟨rfl, hb⟩
  refine ⟨hb, ?_⟩
  unfold CutR cutP
  rw [if_pos (by omega)]
 ·exact cut_long a n cap w bs hR hn hcap (by omega) hE hS h3 (by omega)
end Go.Proofs.YtabmnkddmdffkaaGreatDoor.Arc
