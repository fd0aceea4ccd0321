import Derived.Test.YtabmnkddmdffkaaGreatDoorARRm0G
import Derived.Test.YtabmnkddmdffkaaGreatDoorARFairG
import Derived.Deep.LoopGhost
namespace Go.Proofs.YtabmnkddmdffkaaGreatDoor.Arc
open Go.RowKit Go.Maps
def rscanR (bs : Bs) : Option (List Mm) := rscanP 5001 true (bs.drop 8) [] []
def RmR (bs : Bs) (w' : World) (r : Ending) : Prop :=
 (∃ v ms, r = .returned (.tuple #[v, .int .i64 0]) ∧ Mems w' v ms ∧ wrongR ms = 0 ∧ archB ms = bs) ∨
 (∃ k : Nat, r = .returned (.tuple #[.slice none 0 0, .int .i64 k]) ∧ (k = 2 ∧ 65536 < bs.length ∨ k = 20 ∧ ¬ 65536 < bs.length) ∧ ∀ ms, wrongR ms = 0 → archB ms ≠ bs)
theorem rnone_arch {bs : Bs} (h : rscanR bs = none) : ∀ ms, wrongR ms = 0 → archB ms ≠ bs := fun ms h1 h2 => by
 have := rscan_arch ms h1 5001 (Nat.le_refl _)
 rw [h2] at this
 unfold rscanR at h
 rw [h] at this
 cases this
theorem rno_other {bs : Bs} {ns : List Mv} (hs : rscanR bs = some (ns.map tE)) (h : wrongR ns ≠ 0 ∨ archB ns ≠ bs) : ∀ ms, wrongR ms = 0 → archB ms ≠ bs := fun ms h1 h2 => by
 have e := rscan_arch ms h1 5001 (Nat.le_refl _)
 rw [h2] at e
 unfold rscanR at hs
 rw [hs] at e
 have e2 : ns.map toE = ms.map toE := Option.some.inj e
 rcases h with h | h
 ·exact h ((wrong_map e2).trans h1)
 ·exact h ((arch_map e2).trans h2)
theorem rs_none {k : Nat} {f : Bool} {r t : Bs} {l : List Mm} (h0 : ¬ r.length < 60) (h : digR ((r.drop 48).take 10) = none) : rscanP (k + 1) f r t l = none := by
 rw [rscanP, if_neg h0, h]
theorem rs_far {k n : Nat} {f : Bool} {r t : Bs} {l : List Mm} (h0 : ¬ r.length < 60) (h : digR ((r.drop 48).take 10) = some n) (hn : ¬ n ≤ (r.drop 60).length) : rscanP (k + 1) f r t l = none := by
 rw [rscanP, if_neg h0, h]
 dsimp only
 rw [if_neg hn]
theorem rs_tab {k n : Nat} {f : Bool} {r t : Bs} {l : List Mm} (h0 : ¬ r.length < 60) (h : digR ((r.drop 48).take 10) = some n) (hn : n ≤ (r.drop 60).length) (hf : f = true ∧ r.take 16 = pad 16 [47, 47]) : rscanP (k + 1) f r t l = rscanP k false ((r.drop 60).drop (evn n)) ((r.drop 60).take n) l := by
 rw [rscanP, if_neg h0, h]
 dsimp only
 rw [if_pos hn, if_pos hf]
theorem rs_bad {k n : Nat} {f : Bool} {r t : Bs} {l : List Mm} (h0 : ¬ r.length < 60) (h : digR ((r.drop 48).take 10) = some n) (hn : n ≤ (r.drop 60).length) (hf : ¬ (f = true ∧ r.take 16 = pad 16 [47, 47])) (hm : rnmP (r.take 16) t = none) : rscanP (k + 1) f r t l = none := by
 rw [rscanP, if_neg h0, h]
 dsimp only
 rw [if_pos hn, if_neg hf, hm]
theorem rs_mem {k n : Nat} {f : Bool} {r t nm : Bs} {l : List Mm} (h0 : ¬ r.length < 60) (h : digR ((r.drop 48).take 10) = some n) (hn : n ≤ (r.drop 60).length) (hf : ¬ (f = true ∧ r.take 16 = pad 16 [47, 47])) (hm : rnmP (r.take 16) t = some nm) : rscanP (k + 1) f r t l = rscanP k false ((r.drop 60).drop (evn n)) t (l ++ [(nm, rdat ((r.drop 16).take 12), (r.drop 60).take n)]) := by
 rw [rscanP, if_neg h0, h]
 dsimp only
 rw [if_pos hn, if_neg hf, hm]
theorem rs_end {k : Nat} {f : Bool} {r t : Bs} {l : List Mm} (h0 : r.length < 60) : rscanP k f r t l = some l := by
 cases k <;> rw [rscanP, if_pos h0]
def LR (w : World) (bs : Bs) (gk : Nat) (l t at' : Value) (wr : World) : Prop := Below w.heap.size w wr ∧ ∃ ms tb a, BlF wr w.heap.size l ms ∧ t = .string (mk tb) ∧ at' = .int .i64 (a : Nat) ∧ rscanP gk (decide (a = 8)) (bs.drop a) tb (ms.map tE) = rscanR bs ∧ 8 ≤ a ∧ a ≤ 65600 ∧ (bs.drop a).length ≤ 60 * gk ∧ ms.length + gk ≤ 5001 ∧ tb.length ≤ 65536 ∧ ∀ m ∈ ms, m.name.length ≤ 70000 ∧ m.data.length ≤ 70000
theorem lr_step {w w9 : World} {bs tb : Bs} {gk' a nn : Nat} {l' : Value} {ms : List Mv} {x : Mv} (hB : Below w.heap.size w w9) (hb : BlF w9 w.heap.size l' (ms ++ [x])) (hsc : rscanP (gk' + 1) (decide (a = 8)) (bs.drop a) tb (ms.map tE) = rscanR bs)
  (hst : rscanP (gk' + 1) (decide (a = 8)) (bs.drop a) tb (ms.map tE) = rscanP gk' false (((bs.drop a).drop 60).drop (evn nn)) tb ((ms ++ [x]).map tE)) (ha8 : 8 ≤ a) (hk1 : (bs.drop a).length ≤ 60 * (gk' + 1)) (hmk : ms.length + (gk' + 1) ≤ 5001) (htb : tb.length ≤ 65536) (hds : ∀ m ∈ ms, m.name.length ≤ 70000 ∧ m.data.length ≤ 70000) (hx : x.name.length ≤ 70000 ∧ x.data.length ≤ 70000) (hle : a + 60 + nn ≤ bs.length) (hbl : bs.length ≤ 65536) :
  LR w bs gk' l' (.string (mk tb)) (.int .i64 ((a : Int) + 60 + (nn : Int) + (nn : Int) % 2)) w9 := by
 refine ⟨hB, ms ++ [x], tb, a + 60 + evn nn, hb, rfl, ?_, ?_, by omega, ?_, ?_, ?_, htb, fun m hm => ?_⟩
 ·unfold evn; congr 1; omega
 ·rw [← hsc, hst, List.drop_drop, List.drop_drop, decide_eq_false (show ¬ a + 60 + evn nn = 8 by omega), Nat.add_assoc]
 ·unfold evn; omega
 ·rw [List.length_drop] at hk1 ⊢; omega
 ·rw [List.length_append, List.length_cons, List.length_nil]; omega
 ·rcases List.mem_append.1 hm with hm | hm
  ·exact hds m hm
  ·rw [List.mem_singleton.1 hm]; exact hx
theorem lr_tab {w w9 : World} {bs tb tb' : Bs} {gk' a nn : Nat} {l' : Value} {ms : List Mv} (hB : Below w.heap.size w w9) (hb : BlF w9 w.heap.size l' ms) (hsc : rscanP (gk' + 1) (decide (a = 8)) (bs.drop a) tb (ms.map tE) = rscanR bs)
  (hst : rscanP (gk' + 1) (decide (a = 8)) (bs.drop a) tb (ms.map tE) = rscanP gk' false (((bs.drop a).drop 60).drop (evn nn)) tb' (ms.map tE)) (ha8 : 8 ≤ a) (hk1 : (bs.drop a).length ≤ 60 * (gk' + 1)) (hmk : ms.length + (gk' + 1) ≤ 5001) (htb : tb'.length ≤ 65536) (hds : ∀ m ∈ ms, m.name.length ≤ 70000 ∧ m.data.length ≤ 70000) (hle : a + 60 + nn ≤ bs.length) (hbl : bs.length ≤ 65536) :
  LR w bs gk' l' (.string (mk tb')) (.int .i64 ((a : Int) + 60 + (nn : Int) + (nn : Int) % 2)) w9 := by
 refine ⟨hB, ms, tb', a + 60 + evn nn, hb, rfl, ?_, ?_, by omega, ?_, ?_, by omega, htb, hds⟩
 ·unfold evn; congr 1; omega
 ·rw [← hsc, hst, List.drop_drop, List.drop_drop, decide_eq_false (show ¬ a + 60 + evn nn = 8 by omega), Nat.add_assoc]
 ·unfold evn; omega
 ·rw [List.length_drop] at hk1 ⊢; omega
theorem twh_mem {l : Bs} {c : UInt8} : c ∈ l ↔ (twh c l).length < l.length := by
 induction l with
 | nil => simp [twh]
 | cons x r ih =>
  by_cases h : x = c
  ·subst h; simp [twh]
  ·have e : twh c (x :: r) = x :: twh c r := by unfold twh; rw [List.takeWhile_cons_of_pos (by simpa using h)]
   rw [e, List.length_cons, List.length_cons, List.mem_cons, ih]
   constructor
   ·rintro (h1 | h1)
    ·exact absurd h1.symm h
    ·omega
   ·intro h1; exact .inr (by omega)
theorem pre_no {m0 : UInt8} {Mr : Bs} (h : ¬ m0 = 47) : ¬ Lib.hasPrefix (m0 :: Mr) [47] = true := by
 have : ((47 : UInt8) == m0) = false := by simpa using fun e => h e.symm
 simp [Lib.hasPrefix, List.isPrefixOf, this]
theorem pre_yes {m0 : UInt8} {Mr : Bs} (h : m0 = 47) : Lib.hasPrefix (m0 :: Mr) [47] = true := by
 simp [Lib.hasPrefix, List.isPrefixOf, h]
theorem rnm_s {m0 : UInt8} {Mr t : Bs} (h : ¬ m0 = 47) (hm : (twh 47 (m0 :: Mr)).length < (m0 :: Mr).length) : rnmP (m0 :: Mr) t = some (twh 47 (m0 :: Mr)) := by
 unfold rnmP
 rw [if_neg (pre_no h), if_pos (twh_mem.2 hm)]
 rfl
theorem rnm_s_none {m0 : UInt8} {Mr t : Bs} (h : ¬ m0 = 47) (hm : ¬ (twh 47 (m0 :: Mr)).length < (m0 :: Mr).length) : rnmP (m0 :: Mr) t = none := by
 unfold rnmP
 rw [if_neg (pre_no h), if_neg (fun e => hm (twh_mem.1 e))]
theorem rnm_l_none {m0 : UInt8} {Mr t : Bs} (h : m0 = 47) (hd : digR Mr = none) : rnmP (m0 :: Mr) t = none := by
 unfold rnmP
 rw [if_pos (pre_yes h), List.drop_succ_cons, List.drop_zero, hd]
theorem rnm_l_far {m0 : UInt8} {Mr t : Bs} {j : Nat} (h : m0 = 47) (hd : digR Mr = some j) (hj : ¬ j ≤ t.length) : rnmP (m0 :: Mr) t = none := by
 unfold rnmP
 rw [if_pos (pre_yes h), List.drop_succ_cons, List.drop_zero, hd]
 dsimp only
 rw [if_neg hj]
theorem rnm_l_miss {m0 : UInt8} {Mr t : Bs} {j : Nat} (h : m0 = 47) (hd : digR Mr = some j) (hz : ¬ 0 ≤ Lib.index (t.drop j) [47, 10]) : rnmP (m0 :: Mr) t = none := by
 unfold rnmP
 rw [if_pos (pre_yes h), List.drop_succ_cons, List.drop_zero, hd]
 dsimp only
 unfold Lib.cut
 rw [if_neg hz]
 split <;> rfl
theorem rnm_l {m0 : UInt8} {Mr t : Bs} {j z : Nat} (h : m0 = 47) (hd : digR Mr = some j) (hj : j ≤ t.length) (hz : Lib.index (t.drop j) [47, 10] = z) : rnmP (m0 :: Mr) t = some ((t.drop j).take z) := by
 unfold rnmP
 rw [if_pos (pre_yes h), List.drop_succ_cons, List.drop_zero, hd]
 dsimp only
 unfold Lib.cut
 rw [if_pos hj, hz, if_pos (Int.natCast_nonneg z)]
 rfl
theorem index_le : ∀ (s sub : Bs), Lib.index s sub ≤ s.length
 | [], sub => by unfold Lib.index; split <;> simp
 | b :: l, sub => by
  have ih := index_le l sub
  unfold Lib.index
  split
  ·rw [List.length_cons]; omega
  ·split
   ·rw [List.length_cons]; omega
   ·rw [List.length_cons]; omega
theorem find_le {s sub : Bs} {z : Nat} (h : Lib.index s sub = z) : z ≤ s.length := by
 have := index_le s sub
 omega
set_option maxRecDepth 100000 in
set_option maxHeartbeats 4000000 in
theorem members_any' (qA : ∀ (v : Value) (ms : List Mv) (w : World), Mems w v ms → ms.length ≤ 5001 → (∀ m ∈ ms, m.name.length ≤ 70000 ∧ m.data.length ≤ 70000) → Calls Tryz.prog 95 #[v] w fun r w' => Below w.heap.size w w' ∧ ((wrongR ms = 0 ∧ ∃ v, r = .returned (.tuple #[v, .int .i64 0]) ∧ Rds w' v (archB ms)) ∨ (wrongR ms ≠ 0 ∧ r = .returned (.tuple #[.slice none 0 0, .int .i64 (wrongR ms : Nat)]))))
  (ba : Option Addr) (n cap : Nat) (bs : Bs) (w : World) (hR : Rds w (.slice ba n cap) bs) (hn : n = bs.length) (hl : n ≤ 100000) :
  Calls Tryz.prog 65 #[.slice ba n cap] w fun r w' => Below w.heap.size w w' ∧ RmR bs w' r := by
 have cv := rds_str hR
 have HN := hide' hn
 clear hn
 by_cases hlong : 65536 < n
 ·have HNo := hide' (no_long (bs := bs) (by have := HN.out; omega))
  have g1 : (65536 : Int) < (n : Int) := by omega
  clear cv
  go_enter Tryz.func65, Tryz.ntmps65
  go_wp2
  go_ret2
  exact ⟨Below.refl _ _, .inr ⟨2, rfl, .inl ⟨rfl, by have := HN.out; omega⟩, HNo.out⟩⟩
 ·have HNL : Hid (¬ 65536 < bs.length) := by have := HN.out; show ¬ _; omega
  have g1 : ¬ (65536 : Int) < (n : Int) := by omega
  have hz : (mk bs).size = bs.length := mk_size bs
  have hbl : bs.length ≤ 65536 := by have := HNL.out; omega
  go_enter Tryz.func65, Tryz.ntmps65
  go_wp2_with fail
  clear cv
  go_loopg [5, 6, 7, 8, 9, 10, 11, 12, 13, 14, 15, 16] 5001 (fun gk l t at' _ _ _ _ _ _ _ _ _ wr => LR w bs gk l t at' wr)
  case atStart => exact ⟨Below.refl _ _, [], [], 8, BlF.nil _ _, rfl, rfl, rfl, by omega, by omega, by rw [List.length_drop]; omega, Nat.le_refl _, Nat.zero_le _, fun m hm => (by cases hm)⟩
  obtain ⟨hBe, ms, tb, a, hbl5, rfl, rfl, hsc, ha8, ha, hk1, hmk, htb, hds⟩ := hrel
  obtain ⟨la, lc, hlv⟩ := hbl5.form
  subst hlv
  have hml : ms.length ≤ 5001 := by omega
  have hs0 := hBe.size
  by_cases h60 : a + 60 ≤ bs.length
  ·cases gk with
   | zero => rw [List.length_drop] at hk1; omega
   | succ gk' =>
   have g60 : (a : Int) + 60 ≤ (bs.length : Int) := by omega
   obtain ⟨X, hX⟩ : ∃ X, X = ((bs.drop a).drop 48).take 10 := ⟨_, rfl⟩
   obtain ⟨Y, hY⟩ : ∃ Y, Y = ((bs.drop a).drop 16).take 12 := ⟨_, rfl⟩
   obtain ⟨M, hM⟩ : ∃ M, M = (bs.drop a).take 16 := ⟨_, rfl⟩
   have x48 : (mk bs).extract (a + 48) (a + 58) = mk X := by rw [ext_mk, tl_mk, hX, List.drop_drop, show a + 58 - (a + 48) = 10 by omega]
   have x16 : (mk bs).extract (a + 16) (a + 28) = mk Y := by rw [ext_mk, tl_mk, hY, List.drop_drop, show a + 28 - (a + 16) = 12 by omega]
   have x0 : (mk bs).extract a (a + 16) = mk M := by rw [ext_mk, tl_mk, hM, show a + 16 - a = 16 by omega]
   have lX : X.length ≤ 10 := by rw [hX]; exact List.length_take_le _ _
   have lY : Y.length ≤ 12 := by rw [hY]; exact List.length_take_le _ _
   have lM : M.length = 16 := by rw [hM, List.length_take, List.length_drop]; omega
   have hr60 : ¬ (bs.drop a).length < 60 := by rw [List.length_drop]; omega
   have HX := hide' (And.intro hX (And.intro hY (And.intro hM hr60)))
   have HK := hide' (And.intro hBe (And.intro hbl5 (And.intro hsc (And.intro hk1 (And.intro hmk (And.intro htb hds))))))
   have HB := hide' hBe
   clear hBe hbl5 hsc hk1 hmk hds hR hX hY hM hr60
   have qd1 := fun w => digits_any (mk X) w (by rw [mk_size]; omega)
   have qd2 := fun w => digits_any (mk Y) w (by rw [mk_size]; omega)
   rw [tl_mk] at qd1 qd2
   cases hdX : digR X with
   | none =>
    have e : rdat X = -1 := by unfold rdat; rw [hdX]
    have HNo := hide' (rnone_arch (bs := bs) (HK.out.2.2.1.symm.trans (rs_none HX.out.2.2.2 (by rw [← HX.out.1]; exact hdX))))
    rw [e] at qd1
    clear hdX e
    go_wp2_with fail
    refine (qd1 _).mono ?_
    rintro r w1 ⟨rfl, rfl⟩
    dsimp only
    go_wp2_with fail
    refine (qd2 _).mono ?_
    rintro r w2 ⟨rfl, rfl⟩
    dsimp only
    go_wp2_with fail
    go_ret2
    exact ⟨HB.out, .inr ⟨20, rfl, .inr ⟨rfl, HNL.out⟩, HNo.out⟩⟩
   | some nn =>
    have e : rdat X = (nn : Int) := by unfold rdat; rw [hdX]
    rw [e] at qd1
    clear e
    by_cases hfar : nn ≤ bs.length - (a + 60)
    ·have gf : ¬ ((bs.length : Int) - ((a : Int) + 60)) < (nn : Int) := by omega
     obtain ⟨D, hD⟩ : ∃ D, D = ((bs.drop a).drop 60).take nn := ⟨_, rfl⟩
     have xD : (mk bs).extract (a + 60) (a + 60 + nn) = mk D := by rw [ext_mk, tl_mk, hD, List.drop_drop, show a + 60 + nn - (a + 60) = nn by omega]
     have lD : D.length ≤ 65536 := by rw [hD]; have := List.length_take_le' nn ((bs.drop a).drop 60); rw [List.length_drop, List.length_drop] at this; omega
     have hnn : nn ≤ 65536 := by omega
     have gD : ((a : Int) + 60 + (nn : Int)) ≤ (bs.length : Int) := by omega
     have HD := hide' (And.intro hdX (And.intro hD (show nn ≤ ((bs.drop a).drop 60).length by rw [List.length_drop, List.length_drop]; omega)))
     clear hdX hD
     go_wp2_with fail
     refine (qd1 _).mono ?_
     rintro r w1 ⟨rfl, rfl⟩
     dsimp only
     go_wp2_with fail
     refine (qd2 _).mono ?_
     rintro r w2 ⟨rfl, rfl⟩
     dsimp only
     clear qd1 qd2
     obtain ⟨m0, Mr, rfl⟩ : ∃ m0 Mr, M = m0 :: Mr := by cases M with | nil => simp at lM | cons x r => exact ⟨x, r, rfl⟩
     have lMr : Mr.length = 15 := by simpa using lM
     clear lM
     by_cases ha0 : a = 8
     ·obtain ⟨PD, hPD⟩ : ∃ P, P = pad 16 [47, 47] := ⟨_, rfl⟩
      have qp := fun w => pad_any [47, 47] 16 (by decide) (by decide) w
      rw [← hPD] at qp
      have ea : ((a : Int) == 8) = true := beq_iff_eq.2 (by omega)
      have ea2 : (a : Int) = 8 := by omega
      by_cases hMp : m0 :: Mr = PD
      ·have eM : (m0 :: Mr == PD) = true := beq_iff_eq.2 hMp
       have HT := hide' (rs_tab (k := gk') (t := tb) (l := ms.map tE) HX.out.2.2.2 (by rw [← HX.out.1]; exact HD.out.1) HD.out.2.2 ⟨decide_eq_true ha0, by rw [← HX.out.2.2.1, hMp, hPD]⟩)
       have HMP := hide' (And.intro hMp ha0)
       clear hMp hPD ha0
       clear ea2
       go_wp2_with fail
       refine (qp _).mono ?_
       rintro r w5 ⟨rfl, rfl⟩
       dsimp only
       go_wp2_with fail
       go_roundg gk'
       case rel =>
        obtain ⟨hk1, hmk, htb, hds⟩ := HK.out.2.2.2
        rw [xD]
        refine lr_tab (tb := tb) (tb' := D) HB.out HK.out.2.1 HK.out.2.2.1 ?_ ha8 hk1 hmk (by omega) hds (by omega) hbl
        rw [HD.out.2.1]
        exact HT.out
       case measure => omega
      ·have eM : (m0 :: Mr == PD) = false := beq_eq_false_iff_ne.2 hMp
       have HF : Hid (¬ (decide (a = 8) = true ∧ (bs.drop a).take 16 = pad 16 [47, 47])) := fun h => hMp (by rw [HX.out.2.2.1, hPD]; exact h.2)
       clear hMp hPD ha0 ea2
       go_wp2_with fail
       refine (qp _).mono ?_
       rintro r w5 ⟨rfl, rfl⟩
       dsimp only
       clear qp
       by_cases h47 : m0 = 47
       ·have e47 : ((((mk (m0 :: Mr))[0]'(by rw [mk_size, List.length_cons]; omega)).toNat : Int) == 47) = true := by show ((m0.toNat : Int) == 47) = true; rw [h47]; rfl
        have H47 := hide' h47
        clear h47
        have qd3 := fun w => digits_any (mk Mr) w (by rw [mk_size]; omega)
        rw [tl_mk] at qd3
        have x1 : (mk (m0 :: Mr)).extract 1 16 = mk Mr := by rw [ext_mk, tl_mk, List.drop_succ_cons, List.drop_zero, List.take_of_length_le (by omega)]
        cases hdM : digR Mr with
        | none =>
         have e : rdat Mr = -1 := by unfold rdat; rw [hdM]
         rw [e] at qd3
         have HNo := hide' (rnone_arch (bs := bs) (HK.out.2.2.1.symm.trans (rs_bad HX.out.2.2.2 (by rw [← HX.out.1]; exact HD.out.1) HD.out.2.2 HF.out (by rw [← HX.out.2.2.1]; exact rnm_l_none H47.out hdM))))
         clear hdM e
         go_wp2_with fail
         refine (qd3 _).mono ?_
         rintro r w3 ⟨rfl, rfl⟩
         dsimp only
         go_wp2_with fail
         go_ret2
         exact ⟨HB.out, .inr ⟨20, rfl, .inr ⟨rfl, HNL.out⟩, HNo.out⟩⟩
        | some j =>
         have e : rdat Mr = (j : Int) := by unfold rdat; rw [hdM]
         rw [e] at qd3
         clear e
         by_cases hjt : j ≤ tb.length
         ·have gj : ¬ (tb.length : Int) < (j : Int) := by omega
          have gj2 : (j : Int) ≤ (tb.length : Int) := by omega
          have gj3 : ¬ (j : Int) < 0 := by omega
          have htz : (mk tb).size = tb.length := mk_size tb
          have xt : (mk tb).extract j tb.length = mk (tb.drop j) := by rw [ext_mk, tl_mk, List.take_of_length_le (by rw [List.length_drop]; omega)]
          have qf := fun w => rfind_any (tb.drop j) [47, 10] (by rw [List.length_drop]; omega) (by decide) w
          by_cases hz9 : 0 ≤ Lib.index (tb.drop j) [47, 10]
          ·obtain ⟨z, hz⟩ : ∃ z : Nat, Lib.index (tb.drop j) [47, 10] = z := ⟨(Lib.index (tb.drop j) [47, 10]).toNat, by omega⟩
           obtain ⟨NN, hNN⟩ : ∃ N, N = (tb.drop j).take z := ⟨_, rfl⟩
           have HNM := hide' (show rnmP (m0 :: Mr) tb = some NN by rw [hNN]; exact rnm_l H47.out hdM hjt hz)
           have hzl := find_le hz
           have xn : (mk tb).extract j (j + z) = mk NN := by rw [ext_mk, tl_mk, hNN, Nat.add_sub_cancel_left]
           have lNN : NN.length ≤ 65536 := by rw [hNN]; have := List.length_take_le' z (tb.drop j); rw [List.length_drop] at this; omega
           rw [hz] at qf
           rw [List.length_drop] at hzl
           have gz : (j : Int) + (z : Int) ≤ (tb.length : Int) := by omega
           have gz2 : ¬ (z : Int) < 0 := by omega
           clear hdM hz9 hz hNN
           go_wp2_with fail
           refine (qd3 _).mono ?_
           rintro r w3 ⟨rfl, rfl⟩
           dsimp only
           clear qd3
           go_wp2_with fail
           refine (qf _).mono ?_
           rintro r w4 ⟨rfl, rfl⟩
           dsimp only
           clear qf
           have hnl : List.length NN ≤ 70000 := by omega
           obtain ⟨cv, hdF, hb8⟩ := conv_datF w4 D
           obtain ⟨w8, hw8⟩ : ∃ W, W = Lib.bytesWorld w4 5 (mk D) := ⟨_, rfl⟩
           rw [← hw8] at cv hdF hb8
           have hs8 : w8.heap.size = w4.heap.size + 1 := by rw [hw8]; exact Lib.bytesWorld_size _ _ _
           obtain ⟨dcap, hdcap⟩ : ∃ c, c = grownCap w4 D.length 0 5 := ⟨_, rfl⟩
           rw [← hdcap] at cv hdF
           clear hw8 hdcap
           have hb9 : Below w8.heap.size w8 (w8.alloc (.cells #[.string (mk NN), .int .i64 (rdat Y), .slice (some ⟨w4.heap.size, 0, none⟩) D.length dcap] 86)) := (Below.refl _ _).alloc (Nat.le_refl _) _
           have hbl9 := (HK.out.2.1.below hb8).below hb9
           have hB9 := (HB.out.trans (hb8.mono (by omega))).trans (hb9.mono (by omega))
           have hd10 := hdF.kept fun g hg => hb9.block g (hdF.lt g hg)
           have hown9 := hbl9.own
           have hwz : w.heap.size ≤ (w8.alloc (.cells #[.string (mk NN), .int .i64 (rdat Y), .slice (some ⟨w4.heap.size, 0, none⟩) D.length dcap] 86)).heap.size := by rw [size_alloc']; omega
           have HZ := hide' (And.intro hbl9 (And.intro hB9 hd10))
           clear hb8 hb9 hbl9 hB9 hd10 hdF
           have HS8 := hide' hs8
           clear hs8
           obtain ⟨inf, hi, hz0, hz1, hz2⟩ := info_parts info37
           go_wp2_with (at_builtin; refine wpList_append_lies _ rfl _ _ 81 rfl w.heap.size 86 inf _ 3 48 Tryz.underlying81 hi hz0 hz1 hz2 rfl (by decide) (.slice la ms.length lc) ms.length (flat ms) rfl hown9 ⟨w8.heap.size, 0, none⟩ 1 1 (cellsM ⟨NN, rdat Y, .slice (some ⟨w4.heap.size, 0, none⟩) D.length dcap, D⟩) rfl rfl (news_cells w8 ⟨NN, rdat Y, .slice (some ⟨w4.heap.size, 0, none⟩) D.length dcap, D⟩) (news_one _ _ _ _ _ _) (by decide) (by unfold maxLen; omega) (by omega) hwz _ rfl ?_)
           intro g9 c9 w9 hown10 hgr hat hlt
           obtain ⟨hbl9, hB9, hd10⟩ := HZ.out
           have hbl10 := hbl9.step (x := ⟨NN, rdat Y, .slice (some ⟨w4.heap.size, 0, none⟩) D.length dcap, D⟩) hd10 hgr hown10
           have hB10 := hbl9.grown hgr hB9 (Nat.le_refl _) hwz
           have HJ := hide' (And.intro hbl10 hB10)
           clear hbl9 hB9 hd10 hbl10 hB10 hown10 hgr hat hown9 hi hz0 hz1 hz2 HZ
           go_wp2_with fail
           go_roundg gk'
           case rel =>
            obtain ⟨hk1, hmk, htb, hds⟩ := HK.out.2.2.2
            refine lr_step (x := ⟨NN, rdat Y, .slice (some ⟨w4.heap.size, 0, none⟩) D.length dcap, D⟩) HJ.out.2 HJ.out.1 HK.out.2.2.1 ?_ ha8 hk1 hmk htb hds ⟨hnl, show List.length D ≤ _ by omega⟩ (by omega) hbl
            have h9 := rs_mem (k := gk') (l := ms.map tE) HX.out.2.2.2 (by rw [← HX.out.1]; exact HD.out.1) HD.out.2.2 HF.out (t := tb) (nm := NN) (by rw [← HX.out.2.2.1]; exact HNM.out)
            rw [← HX.out.2.1, ← HD.out.2.1] at h9
            rw [h9, List.map_append]
            rfl
           case measure => omega
          ·have HNo := hide' (rnone_arch (bs := bs) (HK.out.2.2.1.symm.trans (rs_bad HX.out.2.2.2 (by rw [← HX.out.1]; exact HD.out.1) HD.out.2.2 HF.out (by rw [← HX.out.2.2.1]; exact rnm_l_miss H47.out hdM hz9))))
           obtain ⟨z, hz⟩ : ∃ z, z = Lib.index (tb.drop j) [47, 10] := ⟨_, rfl⟩
           rw [← hz] at qf hz9
           have gz : z < 0 := by omega
           clear hdM hz hz9
           go_wp2_with fail
           refine (qd3 _).mono ?_
           rintro r w3 ⟨rfl, rfl⟩
           dsimp only
           clear qd3
           go_wp2_with fail
           refine (qf _).mono ?_
           rintro r w4 ⟨rfl, rfl⟩
           dsimp only
           go_wp2_with fail
           go_ret2
           exact ⟨HB.out, .inr ⟨20, rfl, .inr ⟨rfl, HNL.out⟩, HNo.out⟩⟩
         ·have HNo := hide' (rnone_arch (bs := bs) (HK.out.2.2.1.symm.trans (rs_bad HX.out.2.2.2 (by rw [← HX.out.1]; exact HD.out.1) HD.out.2.2 HF.out (by rw [← HX.out.2.2.1]; exact rnm_l_far H47.out hdM hjt))))
          have gj : (tb.length : Int) < (j : Int) := by omega
          have htz : (mk tb).size = tb.length := mk_size tb
          clear hdM
          go_wp2_with fail
          refine (qd3 _).mono ?_
          rintro r w3 ⟨rfl, rfl⟩
          dsimp only
          go_wp2_with fail
          go_ret2
          exact ⟨HB.out, .inr ⟨20, rfl, .inr ⟨rfl, HNL.out⟩, HNo.out⟩⟩
       ·have e47 : ((((mk (m0 :: Mr))[0]'(by rw [mk_size, List.length_cons]; omega)).toNat : Int) == 47) = false := beq_no m0 47 47 rfl h47
        have H47 := hide' h47
        clear h47
        have qi := fun w => rfirst_any 47 47 rfl (mk (m0 :: Mr)) w (by rw [mk_size, List.length_cons]; omega)
        rw [tl_mk] at qi
        by_cases hmem : (twh 47 (m0 :: Mr)).length < (m0 :: Mr).length
        ·have ei : ipc 47 (m0 :: Mr) = ((twh 47 (m0 :: Mr)).length : Int) := by unfold ipc; rw [if_pos hmem]
         rw [ei] at qi
         have hlt16 : (twh 47 (m0 :: Mr)).length < 16 := by rw [List.length_cons] at hmem; omega
         have xn : (mk (m0 :: Mr)).extract 0 (twh 47 (m0 :: Mr)).length = mk (twh 47 (m0 :: Mr)) := by rw [ext_mk, tl_mk, List.drop_zero, Nat.sub_zero, ← twh_take]
         have HNM := hide' (rnm_s (t := tb) H47.out hmem)
         clear hmem ei
         obtain ⟨tn, htn⟩ : ∃ tn, tn = (twh 47 (m0 :: Mr)).length := ⟨_, rfl⟩
         rw [← htn] at qi xn hlt16
         have HTN := hide' htn
         clear htn
         go_wp2_with fail
         refine (qi _).mono ?_
         rintro r w3 ⟨rfl, rfl⟩
         dsimp only
         clear qi
         have hnl : List.length (twh 47 (m0 :: Mr)) ≤ 70000 := by have := twh_le 47 (m0 :: Mr); rw [List.length_cons] at this; omega
         obtain ⟨cv, hdF, hb8⟩ := conv_datF w3 D
         obtain ⟨w8, hw8⟩ : ∃ W, W = Lib.bytesWorld w3 5 (mk D) := ⟨_, rfl⟩
         rw [← hw8] at cv hdF hb8
         have hs8 : w8.heap.size = w3.heap.size + 1 := by rw [hw8]; exact Lib.bytesWorld_size _ _ _
         obtain ⟨dcap, hdcap⟩ : ∃ c, c = grownCap w3 D.length 0 5 := ⟨_, rfl⟩
         rw [← hdcap] at cv hdF
         clear hw8 hdcap
         have hb9 : Below w8.heap.size w8 (w8.alloc (.cells #[.string (mk (twh 47 (m0 :: Mr))), .int .i64 (rdat Y), .slice (some ⟨w3.heap.size, 0, none⟩) D.length dcap] 86)) := (Below.refl _ _).alloc (Nat.le_refl _) _
         have hbl9 := (HK.out.2.1.below hb8).below hb9
         have hB9 := (HB.out.trans (hb8.mono (by omega))).trans (hb9.mono (by omega))
         have hd10 := hdF.kept fun g hg => hb9.block g (hdF.lt g hg)
         have hown9 := hbl9.own
         have hwz : w.heap.size ≤ (w8.alloc (.cells #[.string (mk (twh 47 (m0 :: Mr))), .int .i64 (rdat Y), .slice (some ⟨w3.heap.size, 0, none⟩) D.length dcap] 86)).heap.size := by rw [size_alloc']; omega
         have HZ := hide' (And.intro hbl9 (And.intro hB9 hd10))
         clear hb8 hb9 hbl9 hB9 hd10 hdF
         have HS8 := hide' hs8
         clear hs8
         obtain ⟨inf, hi, hz0, hz1, hz2⟩ := info_parts info37
         go_wp2_with (at_builtin; refine wpList_append_lies _ rfl _ _ 81 rfl w.heap.size 86 inf _ 3 48 Tryz.underlying81 hi hz0 hz1 hz2 rfl (by decide) (.slice la ms.length lc) ms.length (flat ms) rfl hown9 ⟨w8.heap.size, 0, none⟩ 1 1 (cellsM ⟨(twh 47 (m0 :: Mr)), rdat Y, .slice (some ⟨w3.heap.size, 0, none⟩) D.length dcap, D⟩) rfl rfl (news_cells w8 ⟨(twh 47 (m0 :: Mr)), rdat Y, .slice (some ⟨w3.heap.size, 0, none⟩) D.length dcap, D⟩) (news_one _ _ _ _ _ _) (by decide) (by unfold maxLen; omega) (by omega) hwz _ rfl ?_)
         intro g9 c9 w9 hown10 hgr hat hlt
         obtain ⟨hbl9, hB9, hd10⟩ := HZ.out
         have hbl10 := hbl9.step (x := ⟨(twh 47 (m0 :: Mr)), rdat Y, .slice (some ⟨w3.heap.size, 0, none⟩) D.length dcap, D⟩) hd10 hgr hown10
         have hB10 := hbl9.grown hgr hB9 (Nat.le_refl _) hwz
         have HJ := hide' (And.intro hbl10 hB10)
         clear hbl9 hB9 hd10 hbl10 hB10 hown10 hgr hat hown9 hi hz0 hz1 hz2 HZ
         go_wp2_with fail
         go_roundg gk'
         case rel =>
          obtain ⟨hk1, hmk, htb, hds⟩ := HK.out.2.2.2
          refine lr_step (x := ⟨(twh 47 (m0 :: Mr)), rdat Y, .slice (some ⟨w3.heap.size, 0, none⟩) D.length dcap, D⟩) HJ.out.2 HJ.out.1 HK.out.2.2.1 ?_ ha8 hk1 hmk htb hds ⟨hnl, show List.length D ≤ _ by omega⟩ (by omega) hbl
          have h9 := rs_mem (k := gk') (l := ms.map tE) HX.out.2.2.2 (by rw [← HX.out.1]; exact HD.out.1) HD.out.2.2 HF.out (t := tb) (nm := (twh 47 (m0 :: Mr))) (by rw [← HX.out.2.2.1]; exact HNM.out)
          rw [← HX.out.2.1, ← HD.out.2.1] at h9
          rw [h9, List.map_append]
          rfl
         case measure => omega
        ·have ei : ipc 47 (m0 :: Mr) = -1 := by unfold ipc; rw [if_neg hmem]
         rw [ei] at qi
         have HNo := hide' (rnone_arch (bs := bs) (HK.out.2.2.1.symm.trans (rs_bad HX.out.2.2.2 (by rw [← HX.out.1]; exact HD.out.1) HD.out.2.2 HF.out (by rw [← HX.out.2.2.1]; exact rnm_s_none H47.out hmem))))
         clear hmem ei
         go_wp2_with fail
         refine (qi _).mono ?_
         rintro r w3 ⟨rfl, rfl⟩
         dsimp only
         go_wp2_with fail
         go_ret2
         exact ⟨HB.out, .inr ⟨20, rfl, .inr ⟨rfl, HNL.out⟩, HNo.out⟩⟩
     ·have ea : ((a : Int) == 8) = false := beq_eq_false_iff_ne.2 (by omega)
      have ea2 : ¬ (a : Int) = 8 := by omega
      have HF : Hid (¬ (decide (a = 8) = true ∧ (bs.drop a).take 16 = pad 16 [47, 47])) := fun h => ha0 (of_decide_eq_true h.1)
      clear ha0
      by_cases h47 : m0 = 47
      ·have e47 : ((((mk (m0 :: Mr))[0]'(by rw [mk_size, List.length_cons]; omega)).toNat : Int) == 47) = true := by show ((m0.toNat : Int) == 47) = true; rw [h47]; rfl
       have H47 := hide' h47
       clear h47
       have qd3 := fun w => digits_any (mk Mr) w (by rw [mk_size]; omega)
       rw [tl_mk] at qd3
       have x1 : (mk (m0 :: Mr)).extract 1 16 = mk Mr := by rw [ext_mk, tl_mk, List.drop_succ_cons, List.drop_zero, List.take_of_length_le (by omega)]
       cases hdM : digR Mr with
       | none =>
        have e : rdat Mr = -1 := by unfold rdat; rw [hdM]
        rw [e] at qd3
        have HNo := hide' (rnone_arch (bs := bs) (HK.out.2.2.1.symm.trans (rs_bad HX.out.2.2.2 (by rw [← HX.out.1]; exact HD.out.1) HD.out.2.2 HF.out (by rw [← HX.out.2.2.1]; exact rnm_l_none H47.out hdM))))
        clear hdM e
        go_wp2_with fail
        refine (qd3 _).mono ?_
        rintro r w3 ⟨rfl, rfl⟩
        dsimp only
        go_wp2_with fail
        go_ret2
        exact ⟨HB.out, .inr ⟨20, rfl, .inr ⟨rfl, HNL.out⟩, HNo.out⟩⟩
       | some j =>
        have e : rdat Mr = (j : Int) := by unfold rdat; rw [hdM]
        rw [e] at qd3
        clear e
        by_cases hjt : j ≤ tb.length
        ·have gj : ¬ (tb.length : Int) < (j : Int) := by omega
         have gj2 : (j : Int) ≤ (tb.length : Int) := by omega
         have gj3 : ¬ (j : Int) < 0 := by omega
         have htz : (mk tb).size = tb.length := mk_size tb
         have xt : (mk tb).extract j tb.length = mk (tb.drop j) := by rw [ext_mk, tl_mk, List.take_of_length_le (by rw [List.length_drop]; omega)]
         have qf := fun w => rfind_any (tb.drop j) [47, 10] (by rw [List.length_drop]; omega) (by decide) w
         by_cases hz9 : 0 ≤ Lib.index (tb.drop j) [47, 10]
         ·obtain ⟨z, hz⟩ : ∃ z : Nat, Lib.index (tb.drop j) [47, 10] = z := ⟨(Lib.index (tb.drop j) [47, 10]).toNat, by omega⟩
          obtain ⟨NN, hNN⟩ : ∃ N, N = (tb.drop j).take z := ⟨_, rfl⟩
          have HNM := hide' (show rnmP (m0 :: Mr) tb = some NN by rw [hNN]; exact rnm_l H47.out hdM hjt hz)
          have hzl := find_le hz
          have xn : (mk tb).extract j (j + z) = mk NN := by rw [ext_mk, tl_mk, hNN, Nat.add_sub_cancel_left]
          have lNN : NN.length ≤ 65536 := by rw [hNN]; have := List.length_take_le' z (tb.drop j); rw [List.length_drop] at this; omega
          rw [hz] at qf
          rw [List.length_drop] at hzl
          have gz : (j : Int) + (z : Int) ≤ (tb.length : Int) := by omega
          have gz2 : ¬ (z : Int) < 0 := by omega
          clear hdM hz9 hz hNN
          go_wp2_with fail
          refine (qd3 _).mono ?_
          rintro r w3 ⟨rfl, rfl⟩
          dsimp only
          clear qd3
          go_wp2_with fail
          refine (qf _).mono ?_
          rintro r w4 ⟨rfl, rfl⟩
          dsimp only
          clear qf
          have hnl : List.length NN ≤ 70000 := by omega
          obtain ⟨cv, hdF, hb8⟩ := conv_datF w4 D
          obtain ⟨w8, hw8⟩ : ∃ W, W = Lib.bytesWorld w4 5 (mk D) := ⟨_, rfl⟩
          rw [← hw8] at cv hdF hb8
          have hs8 : w8.heap.size = w4.heap.size + 1 := by rw [hw8]; exact Lib.bytesWorld_size _ _ _
          obtain ⟨dcap, hdcap⟩ : ∃ c, c = grownCap w4 D.length 0 5 := ⟨_, rfl⟩
          rw [← hdcap] at cv hdF
          clear hw8 hdcap
          have hb9 : Below w8.heap.size w8 (w8.alloc (.cells #[.string (mk NN), .int .i64 (rdat Y), .slice (some ⟨w4.heap.size, 0, none⟩) D.length dcap] 86)) := (Below.refl _ _).alloc (Nat.le_refl _) _
          have hbl9 := (HK.out.2.1.below hb8).below hb9
          have hB9 := (HB.out.trans (hb8.mono (by omega))).trans (hb9.mono (by omega))
          have hd10 := hdF.kept fun g hg => hb9.block g (hdF.lt g hg)
          have hown9 := hbl9.own
          have hwz : w.heap.size ≤ (w8.alloc (.cells #[.string (mk NN), .int .i64 (rdat Y), .slice (some ⟨w4.heap.size, 0, none⟩) D.length dcap] 86)).heap.size := by rw [size_alloc']; omega
          have HZ := hide' (And.intro hbl9 (And.intro hB9 hd10))
          clear hb8 hb9 hbl9 hB9 hd10 hdF
          have HS8 := hide' hs8
          clear hs8
          obtain ⟨inf, hi, hz0, hz1, hz2⟩ := info_parts info37
          go_wp2_with (at_builtin; refine wpList_append_lies _ rfl _ _ 81 rfl w.heap.size 86 inf _ 3 48 Tryz.underlying81 hi hz0 hz1 hz2 rfl (by decide) (.slice la ms.length lc) ms.length (flat ms) rfl hown9 ⟨w8.heap.size, 0, none⟩ 1 1 (cellsM ⟨NN, rdat Y, .slice (some ⟨w4.heap.size, 0, none⟩) D.length dcap, D⟩) rfl rfl (news_cells w8 ⟨NN, rdat Y, .slice (some ⟨w4.heap.size, 0, none⟩) D.length dcap, D⟩) (news_one _ _ _ _ _ _) (by decide) (by unfold maxLen; omega) (by omega) hwz _ rfl ?_)
          intro g9 c9 w9 hown10 hgr hat hlt
          obtain ⟨hbl9, hB9, hd10⟩ := HZ.out
          have hbl10 := hbl9.step (x := ⟨NN, rdat Y, .slice (some ⟨w4.heap.size, 0, none⟩) D.length dcap, D⟩) hd10 hgr hown10
          have hB10 := hbl9.grown hgr hB9 (Nat.le_refl _) hwz
          have HJ := hide' (And.intro hbl10 hB10)
          clear hbl9 hB9 hd10 hbl10 hB10 hown10 hgr hat hown9 hi hz0 hz1 hz2 HZ
          go_wp2_with fail
          go_roundg gk'
          case rel =>
           obtain ⟨hk1, hmk, htb, hds⟩ := HK.out.2.2.2
           refine lr_step (x := ⟨NN, rdat Y, .slice (some ⟨w4.heap.size, 0, none⟩) D.length dcap, D⟩) HJ.out.2 HJ.out.1 HK.out.2.2.1 ?_ ha8 hk1 hmk htb hds ⟨hnl, show List.length D ≤ _ by omega⟩ (by omega) hbl
           have h9 := rs_mem (k := gk') (l := ms.map tE) HX.out.2.2.2 (by rw [← HX.out.1]; exact HD.out.1) HD.out.2.2 HF.out (t := tb) (nm := NN) (by rw [← HX.out.2.2.1]; exact HNM.out)
           rw [← HX.out.2.1, ← HD.out.2.1] at h9
           rw [h9, List.map_append]
           rfl
          case measure => omega
         ·have HNo := hide' (rnone_arch (bs := bs) (HK.out.2.2.1.symm.trans (rs_bad HX.out.2.2.2 (by rw [← HX.out.1]; exact HD.out.1) HD.out.2.2 HF.out (by rw [← HX.out.2.2.1]; exact rnm_l_miss H47.out hdM hz9))))
          obtain ⟨z, hz⟩ : ∃ z, z = Lib.index (tb.drop j) [47, 10] := ⟨_, rfl⟩
          rw [← hz] at qf hz9
          have gz : z < 0 := by omega
          clear hdM hz hz9
          go_wp2_with fail
          refine (qd3 _).mono ?_
          rintro r w3 ⟨rfl, rfl⟩
          dsimp only
          clear qd3
          go_wp2_with fail
          refine (qf _).mono ?_
          rintro r w4 ⟨rfl, rfl⟩
          dsimp only
          go_wp2_with fail
          go_ret2
          exact ⟨HB.out, .inr ⟨20, rfl, .inr ⟨rfl, HNL.out⟩, HNo.out⟩⟩
        ·have HNo := hide' (rnone_arch (bs := bs) (HK.out.2.2.1.symm.trans (rs_bad HX.out.2.2.2 (by rw [← HX.out.1]; exact HD.out.1) HD.out.2.2 HF.out (by rw [← HX.out.2.2.1]; exact rnm_l_far H47.out hdM hjt))))
         have gj : (tb.length : Int) < (j : Int) := by omega
         have htz : (mk tb).size = tb.length := mk_size tb
         clear hdM
         go_wp2_with fail
         refine (qd3 _).mono ?_
         rintro r w3 ⟨rfl, rfl⟩
         dsimp only
         go_wp2_with fail
         go_ret2
         exact ⟨HB.out, .inr ⟨20, rfl, .inr ⟨rfl, HNL.out⟩, HNo.out⟩⟩
      ·have e47 : ((((mk (m0 :: Mr))[0]'(by rw [mk_size, List.length_cons]; omega)).toNat : Int) == 47) = false := beq_no m0 47 47 rfl h47
       have H47 := hide' h47
       clear h47
       have qi := fun w => rfirst_any 47 47 rfl (mk (m0 :: Mr)) w (by rw [mk_size, List.length_cons]; omega)
       rw [tl_mk] at qi
       by_cases hmem : (twh 47 (m0 :: Mr)).length < (m0 :: Mr).length
       ·have ei : ipc 47 (m0 :: Mr) = ((twh 47 (m0 :: Mr)).length : Int) := by unfold ipc; rw [if_pos hmem]
        rw [ei] at qi
        have hlt16 : (twh 47 (m0 :: Mr)).length < 16 := by rw [List.length_cons] at hmem; omega
        have xn : (mk (m0 :: Mr)).extract 0 (twh 47 (m0 :: Mr)).length = mk (twh 47 (m0 :: Mr)) := by rw [ext_mk, tl_mk, List.drop_zero, Nat.sub_zero, ← twh_take]
        have HNM := hide' (rnm_s (t := tb) H47.out hmem)
        clear hmem ei
        obtain ⟨tn, htn⟩ : ∃ tn, tn = (twh 47 (m0 :: Mr)).length := ⟨_, rfl⟩
        rw [← htn] at qi xn hlt16
        have HTN := hide' htn
        clear htn
        go_wp2_with fail
        refine (qi _).mono ?_
        rintro r w3 ⟨rfl, rfl⟩
        dsimp only
        clear qi
        have hnl : List.length (twh 47 (m0 :: Mr)) ≤ 70000 := by have := twh_le 47 (m0 :: Mr); rw [List.length_cons] at this; omega
        obtain ⟨cv, hdF, hb8⟩ := conv_datF w3 D
        obtain ⟨w8, hw8⟩ : ∃ W, W = Lib.bytesWorld w3 5 (mk D) := ⟨_, rfl⟩
        rw [← hw8] at cv hdF hb8
        have hs8 : w8.heap.size = w3.heap.size + 1 := by rw [hw8]; exact Lib.bytesWorld_size _ _ _
        obtain ⟨dcap, hdcap⟩ : ∃ c, c = grownCap w3 D.length 0 5 := ⟨_, rfl⟩
        rw [← hdcap] at cv hdF
        clear hw8 hdcap
        have hb9 : Below w8.heap.size w8 (w8.alloc (.cells #[.string (mk (twh 47 (m0 :: Mr))), .int .i64 (rdat Y), .slice (some ⟨w3.heap.size, 0, none⟩) D.length dcap] 86)) := (Below.refl _ _).alloc (Nat.le_refl _) _
        have hbl9 := (HK.out.2.1.below hb8).below hb9
        have hB9 := (HB.out.trans (hb8.mono (by omega))).trans (hb9.mono (by omega))
        have hd10 := hdF.kept fun g hg => hb9.block g (hdF.lt g hg)
        have hown9 := hbl9.own
        have hwz : w.heap.size ≤ (w8.alloc (.cells #[.string (mk (twh 47 (m0 :: Mr))), .int .i64 (rdat Y), .slice (some ⟨w3.heap.size, 0, none⟩) D.length dcap] 86)).heap.size := by rw [size_alloc']; omega
        have HZ := hide' (And.intro hbl9 (And.intro hB9 hd10))
        clear hb8 hb9 hbl9 hB9 hd10 hdF
        have HS8 := hide' hs8
        clear hs8
        obtain ⟨inf, hi, hz0, hz1, hz2⟩ := info_parts info37
        go_wp2_with (at_builtin; refine wpList_append_lies _ rfl _ _ 81 rfl w.heap.size 86 inf _ 3 48 Tryz.underlying81 hi hz0 hz1 hz2 rfl (by decide) (.slice la ms.length lc) ms.length (flat ms) rfl hown9 ⟨w8.heap.size, 0, none⟩ 1 1 (cellsM ⟨(twh 47 (m0 :: Mr)), rdat Y, .slice (some ⟨w3.heap.size, 0, none⟩) D.length dcap, D⟩) rfl rfl (news_cells w8 ⟨(twh 47 (m0 :: Mr)), rdat Y, .slice (some ⟨w3.heap.size, 0, none⟩) D.length dcap, D⟩) (news_one _ _ _ _ _ _) (by decide) (by unfold maxLen; omega) (by omega) hwz _ rfl ?_)
        intro g9 c9 w9 hown10 hgr hat hlt
        obtain ⟨hbl9, hB9, hd10⟩ := HZ.out
        have hbl10 := hbl9.step (x := ⟨(twh 47 (m0 :: Mr)), rdat Y, .slice (some ⟨w3.heap.size, 0, none⟩) D.length dcap, D⟩) hd10 hgr hown10
        have hB10 := hbl9.grown hgr hB9 (Nat.le_refl _) hwz
        have HJ := hide' (And.intro hbl10 hB10)
        clear hbl9 hB9 hd10 hbl10 hB10 hown10 hgr hat hown9 hi hz0 hz1 hz2 HZ
        go_wp2_with fail
        go_roundg gk'
        case rel =>
         obtain ⟨hk1, hmk, htb, hds⟩ := HK.out.2.2.2
         refine lr_step (x := ⟨(twh 47 (m0 :: Mr)), rdat Y, .slice (some ⟨w3.heap.size, 0, none⟩) D.length dcap, D⟩) HJ.out.2 HJ.out.1 HK.out.2.2.1 ?_ ha8 hk1 hmk htb hds ⟨hnl, show List.length D ≤ _ by omega⟩ (by omega) hbl
         have h9 := rs_mem (k := gk') (l := ms.map tE) HX.out.2.2.2 (by rw [← HX.out.1]; exact HD.out.1) HD.out.2.2 HF.out (t := tb) (nm := (twh 47 (m0 :: Mr))) (by rw [← HX.out.2.2.1]; exact HNM.out)
         rw [← HX.out.2.1, ← HD.out.2.1] at h9
         rw [h9, List.map_append]
         rfl
        case measure => omega
       ·have ei : ipc 47 (m0 :: Mr) = -1 := by unfold ipc; rw [if_neg hmem]
        rw [ei] at qi
        have HNo := hide' (rnone_arch (bs := bs) (HK.out.2.2.1.symm.trans (rs_bad HX.out.2.2.2 (by rw [← HX.out.1]; exact HD.out.1) HD.out.2.2 HF.out (by rw [← HX.out.2.2.1]; exact rnm_s_none H47.out hmem))))
        clear hmem ei
        go_wp2_with fail
        refine (qi _).mono ?_
        rintro r w3 ⟨rfl, rfl⟩
        dsimp only
        go_wp2_with fail
        go_ret2
        exact ⟨HB.out, .inr ⟨20, rfl, .inr ⟨rfl, HNL.out⟩, HNo.out⟩⟩
    ·have gf : ((bs.length : Int) - ((a : Int) + 60)) < (nn : Int) := by omega
     have HNo := hide' (rnone_arch (bs := bs) (HK.out.2.2.1.symm.trans (rs_far HX.out.2.2.2 (by rw [← HX.out.1]; exact hdX) (by rw [List.length_drop, List.length_drop]; omega))))
     clear hdX
     go_wp2_with fail
     refine (qd1 _).mono ?_
     rintro r w1 ⟨rfl, rfl⟩
     dsimp only
     go_wp2_with fail
     refine (qd2 _).mono ?_
     rintro r w2 ⟨rfl, rfl⟩
     dsimp only
     go_wp2_with fail
     go_ret2
     exact ⟨HB.out, .inr ⟨20, rfl, .inr ⟨rfl, HNL.out⟩, HNo.out⟩⟩
  ·have g60 : ¬ (a : Int) + 60 ≤ (bs.length : Int) := by omega
   have hsc' : rscanR bs = some (ms.map tE) := by rw [← hsc]; exact rs_end (by rw [List.length_drop]; omega)
   have q13 := qA _ ms wr hbl5.mems hml hds
   have HK := hide' (And.intro hBe (And.intro hbl5 hsc'))
   clear hBe hbl5 hsc hk1 hmk hds hR hsc' qA
   go_wp2_with fail
   refine q13.mono ?_
   rintro r w1 ⟨hb1, hw⟩
   clear q13
   have HB := hide' (HK.out.1.trans (hb1.mono hs0))
   have HMe := hide' ((HK.out.2.1.below hb1).mems)
   rcases hw with ⟨hz0, v1, rfl, hrd⟩ | ⟨hz0, rfl⟩
   ·obtain ⟨va, vc, hv⟩ := hrd.len
    have cv1 := rds_str hrd
    obtain ⟨vn, hvn⟩ : ∃ vn, vn = (archB ms).length := ⟨_, rfl⟩
    rw [← hvn] at hv
    subst hv
    by_cases hab : archB ms = bs
    ·rw [hab] at cv1
     have HH := hide' (And.intro hz0 hab)
     clear hab hz0 hrd hb1 hvn
     dsimp only
     go_wp2_with fail
     go_ret2
     exact ⟨HB.out, .inl ⟨_, ms, rfl, HMe.out, HH.out.1, HH.out.2⟩⟩
    ·have HNo := hide' (rno_other HK.out.2.2 (.inr hab))
     obtain ⟨AB, hAB⟩ : ∃ x, x = archB ms := ⟨_, rfl⟩
     rw [← hAB] at cv1 hab
     have eb : (AB == bs) = false := beq_eq_false_iff_ne.2 hab
     clear hz0 hrd hb1 hvn hAB
     dsimp only
     go_wp2_with fail
     go_ret2
     exact ⟨HB.out, .inr ⟨20, rfl, .inr ⟨rfl, HNL.out⟩, HNo.out⟩⟩
   ·have HNo := hide' (rno_other HK.out.2.2 (.inl hz0))
    obtain ⟨kz, hkz⟩ : ∃ kz, kz = wrongR ms := ⟨_, rfl⟩
    rw [← hkz] at hz0 ⊢
    have e1 : ¬ (kz : Int) = 0 := by omega
    have e2 : ((kz : Int) == 0) = false := beq_eq_false_iff_ne.2 e1
    clear hkz hb1
    dsimp only
    go_wp2_with fail
    go_ret2
    exact ⟨HB.out, .inr ⟨20, rfl, .inr ⟨rfl, HNL.out⟩, HNo.out⟩⟩
end Go.Proofs.YtabmnkddmdffkaaGreatDoor.Arc
