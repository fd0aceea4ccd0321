import Derived.Test.YtabmnkddmdffkaaGreatDoorATreeAnyG
import Derived.Test.YtabmnkddmdffkaaGreatDoorARefFairG
import Derived.Deep.Cut
import Derived.Test.YtabmnkddmdffkaaGreatDoorARPd
import Derived.Test.YtabmnkddmdffkaaGreatDoorARNil
import Derived.Test.YtabmnkddmdffkaaGreatDoorARRm
import Derived.Test.YtabmnkddmdffkaaGreatDoorARArc
import Derived.Test.YtabmnkddmdffkaaGreatDoorAChgG
namespace Go.Proofs.YtabmnkddmdffkaaGreatDoor
open Go.RowKit
variable {α : Type}
theorem clean_take {K : List Bs} (h : ∀ y ∈ K, good y) (j : Nat) : clean (sl true (K.take j)) = sl true (K.take j) ∧ kpt (sl true (K.take j)) = K.take j := by
 have hg : ∀ y ∈ K.take j, good y := fun y hy => h y (List.mem_of_mem_take hy)
 have := kpt_sl _ hg
 exact ⟨by unfold clean; rw [this], this⟩
theorem sl_ne {K : List Bs} (h : ∀ y ∈ K, good y) (hk : K ≠ []) : sl true K ≠ [] := fun e => by
 have := kpt_sl K h
 rw [e] at this
 exact hk this.symm
theorem way_more (isd : α → Bool) (T : List (Bs × α)) {K : List Bs} (h : ∀ y ∈ K, good y) {j : Nat} (hj : j < K.length) : lookP isd T (sl true (K.take (j + 1))) = stp isd T (sl true (K.take (j + 1))) (lookP isd T (sl true (K.take j))) (sl true (K.take (j + 1))).length := by
 have hc := clean_take h (j + 1)
 have hne : sl true (K.take (j + 1)) ≠ [] := sl_ne (fun y hy => h y (List.mem_of_mem_take hy)) (fun e => by
  have := congrArg List.length e
  rw [List.length_take] at this
  simp only [List.length_nil] at this
  omega)
 rw [look_up isd T _ hc.1 hne]
 have hp : par (sl true (K.take (j + 1))) = sl true (K.take j) := by
  unfold par
  rw [hc.2, List.take_add_one, List.getElem?_eq_getElem hj]
  show sl true (K.take j ++ [K[j]]).dropLast = _
  rw [List.dropLast_concat]
 rw [hp]
theorem way_bad (isd : α → Bool) (T : List (Bs × α)) {K : List Bs} (h : ∀ y ∈ K, good y) {e : Nat} : ∀ (d j : Nat), j + d = K.length → lookP isd T (sl true (K.take j)) = .bad e → lookP isd T (sl true K) = .bad e
 | 0, j, hj, hb => by
  rw [List.take_of_length_le (by omega)] at hb
  exact hb
 | d + 1, j, hj, hb => by
  refine way_bad isd T h d (j + 1) (by omega) ?_
  rw [way_more isd T h (by omega), hb]
  rfl
def OnWay (isd : α → Bool) (T : List (Bs × α)) (K : List Bs) (j : Nat) : Prop := lookP isd T (sl true (K.take j)) = .rt ∨ ∃ n, lookP isd T (sl true (K.take j)) = .is n ∧ isd n = true
theorem way_start (isd : α → Bool) (T : List (Bs × α)) (K : List Bs) : OnWay isd T K 0 := .inl rfl
theorem way_at (isd : α → Bool) (T : List (Bs × α)) {K : List Bs} (h : ∀ y ∈ K, good y) {j : Nat} (hj : j < K.length) (hw : OnWay isd T K j) : lookP isd T (sl true (K.take (j + 1))) = lkOf (fnd T (sl true (K.take (j + 1)))) := by
 rw [way_more isd T h hj]
 rcases hw with hw | ⟨n, hw, hd⟩
 ·rw [hw]
  show lkOf (fnd T ((sl true (K.take (j + 1))).take (sl true (K.take (j + 1))).length)) = _
  rw [List.take_length]
 ·rw [hw]
  show (if isd n = true then lkOf (fnd T ((sl true (K.take (j + 1))).take (sl true (K.take (j + 1))).length)) else _) = _
  rw [if_pos hd, List.take_length]
theorem way_none (isd : α → Bool) (T : List (Bs × α)) {K : List Bs} (h : ∀ y ∈ K, good y) {j : Nat} (hj : j + 1 < K.length) (hw : OnWay isd T K j) (hf : fnd T (sl true (K.take (j + 1))) = none) : lookP isd T (sl true K) = .bad 10 := by
 refine way_bad isd T h (K.length - (j + 2)) (j + 2) (by omega) ?_
 rw [way_more isd T h hj, way_at isd T h (by omega) hw, hf]
 rfl
theorem way_file (isd : α → Bool) (T : List (Bs × α)) {K : List Bs} (h : ∀ y ∈ K, good y) {j : Nat} (hj : j + 1 < K.length) (hw : OnWay isd T K j) {n : α} (hf : fnd T (sl true (K.take (j + 1))) = some n) (hd : isd n = false) : lookP isd T (sl true K) = .bad 11 := by
 refine way_bad isd T h (K.length - (j + 2)) (j + 2) (by omega) ?_
 rw [way_more isd T h hj, way_at isd T h (by omega) hw, hf]
 show (if isd n = true then _ else Lk.bad 11) = _
 rw [if_neg (by rw [hd]; decide)]
theorem way_on (isd : α → Bool) (T : List (Bs × α)) {K : List Bs} (h : ∀ y ∈ K, good y) {j : Nat} (hj : j < K.length) (hw : OnWay isd T K j) {n : α} (hf : fnd T (sl true (K.take (j + 1))) = some n) (hd : isd n = true) : OnWay isd T K (j + 1) := .inr ⟨n, by rw [way_at isd T h hj hw, hf]; rfl, hd⟩
theorem way_end (isd : α → Bool) (T : List (Bs × α)) {K : List Bs} (h : ∀ y ∈ K, good y) (hk : K ≠ []) (hw : OnWay isd T K (K.length - 1)) : lookP isd T (sl true K) = lkOf (fnd T (sl true K)) := by
 have hl : 0 < K.length := List.length_pos_iff.2 hk
 have := way_at isd T h (j := K.length - 1) (by omega) hw
 rw [show K.length - 1 + 1 = K.length by omega, List.take_of_length_le (Nat.le_refl _)] at this
 exact this
end Go.Proofs.YtabmnkddmdffkaaGreatDoor
namespace Go.Proofs.YtabmnkddmdffkaaGreatDoor
open Go.RowKit Go.Maps
def LookR (w : World) (ns : List Nv) (c : Bs) (e : Ending) (w' : World) : Prop := Below w.heap.size w w' ∧ ∃ k er : Int, e = .returned (.tuple #[.string (mk c), .int .i64 k, .int .i64 er]) ∧ match lookN (ns.map toE) c with
 | .bad m => k = -1 ∧ er = m
 | .rt => k = -2 ∧ er = 0
 | .non => k = -1 ∧ er = 0
 | .is x => er = 0 ∧ ∃ (i : Nat) (n : Nv), k = i ∧ ns[i]? = some n ∧ n.path = c ∧ n.nd = x
theorem Rb.below {w w' : World} {R : Nat} {v : Value} {clk rm : Int} (h : Rb w R v clk rm) (hb : Below w.heap.size w w') : Rb w' R v clk rm := (hb.block _ (lt_of_block h)).trans h
theorem Rb.cells {w : World} {R : Nat} {v : Value} {clk rm : Int} (h : Rb w R v clk rm) : w.cell? ⟨R, 0, none⟩ = some v := by rw [Lib.cell_of_heap h]; rfl
theorem way_slash {K : List Bs} {j : Nat} (h0 : 0 < j) (hj : j < K.length) : sl true (K.take (j + 1)) = sl true (K.take j) ++ 47 :: K.getD j [] := by
 rw [List.take_add_one, List.getElem?_eq_getElem hj, List.getD_eq_getElem?_getD, List.getElem?_eq_getElem hj]
 exact sl_snoc _ _ (fun e => by have := congrArg List.length e; rw [List.length_take] at this; simp only [List.length_nil] at this; omega)
theorem way_first {K : List Bs} (hj : 0 < K.length) : sl true (K.take 1) = K.getD 0 [] := by
 cases K with
 | nil => simp at hj
 | cons a r => simp [sl]
set_option maxRecDepth 100000 in
set_option maxHeartbeats 8000000 in
theorem rlook_any (R : Nat) (v : Value) (ns : List Nv) (clk rm : Int) (P : ByteArray) (w : World) (hR : Rb w R v clk rm) (h : Nodes w v ns) (hs : Srt (ns.map toE)) (hl : ns.length ≤ 1000) (hP : P.size ≤ 300000) :
  Calls Tryz.prog 66 #[.pointer (some ⟨R, 0, none⟩), .string P] w (LookR w ns (clean (tl P))) := by
 obtain ⟨K, hK⟩ : ∃ K, K = kpt (tl P) := ⟨_, rfl⟩
 have HGK : Hid (∀ y ∈ K, good y) := by show ∀ _, _; rw [hK]; exact kpt_good _
 have hnm : nms (clean (tl P)) = K := by rw [hK]; exact nms_clean _
 have hcl : clean (tl P) = sl true K := by rw [hK]; rfl
 have hcs : (mk (clean (tl P))).size ≤ 300001 := by rw [mk_size]; have := clean_len (tl P); rw [tl_len] at this; omega
 have htw : K.length ≤ 300001 ∧ ∀ j, (sl true (K.take j)).length ≤ 300001 := by
  have h1 := kpt_tw (tl P)
  rw [← hK, tl_len] at h1
  refine ⟨by have := len_tw K; omega, fun j => ?_⟩
  have h2 := sl_tw (K.take j) true
  have h3 : tw (K.take j) ≤ tw K := by
   have := tw_append (K.take j) (K.drop j)
   rw [List.take_append_drop] at this
   omega
  omega
 have hret0 : ∀ (k er : Int), (match lookN (ns.map toE) (clean (tl P)) with | .bad m => k = -1 ∧ er = m | .rt => k = -2 ∧ er = 0 | .non => k = -1 ∧ er = 0 | .is x => er = 0 ∧ ∃ (i : Nat) (n : Nv), k = i ∧ ns[i]? = some n ∧ n.path = clean (tl P) ∧ n.nd = x) → ∀ w', Below w.heap.size w w' → LookR w ns (clean (tl P)) (.returned (.tuple #[.string (mk (clean (tl P))), .int .i64 k, .int .i64 er])) w' := fun k er h w' hb => ⟨hb, k, er, rfl, h⟩
 have hret := hret0
 clear hret0
 have q1 := rclean_any P (by omega) w
 generalize hc : clean (tl P) = c at *
 have HR := hide' hR
 have HN := hide' h
 have HS := hide' hs
 have HRT := hide' hret
 have HTW := hide' htw
 have HCL := hide' (And.intro hnm hcl)
 clear hR h hs hK hret htw hnm hcl hc
 go_enter Tryz.func66, Tryz.ntmps66
 go_wp2_with fail
 refine q1.mono ?_
 rintro e w1 ⟨rfl, hb1⟩
 clear q1
 have q2 := rvalid_any (mk c) w1 (by omega)
 rw [tl_mk] at q2
 have HB := hide' hb1
 clear hb1
 dsimp only
 go_wp2_with fail
 refine q2.mono ?_
 rintro e w2 ⟨rfl, hb2⟩
 clear q2
 have HB2 := hide' (HB.out.trans (hb2.mono HB.out.size))
 clear hb2 HB
 cases hv : valid c with
 | false =>
  have HE := hide' (HRT.out (-1) 16 (by unfold lookN; rw [if_neg (by rw [hv]; decide)]; exact ⟨rfl, rfl⟩))
  clear HRT
  dsimp only
  go_wp2_with fail
  refine bodyPost_ret (v := .tuple #[.string (mk c), .int .i64 (-1), .int .i64 16]) (by simp [results, Tryz.results66, go_sem]) rfl ?_
  exact HE.out _ HB2.out
 | true =>
  have HLN : Hid (lookN (ns.map toE) c = lookP (fun n => n.dir) (ns.map toE) c) := by show _ = _; unfold lookN; rw [if_pos hv]
  by_cases h0 : c = []
  ·have HE := hide' (HRT.out (-2) 0 (by rw [HLN.out, h0]; exact ⟨rfl, rfl⟩))
   subst h0
   clear HRT HTW HCL HGK
   dsimp only
   go_wp2_with fail
   refine bodyPost_ret (v := .tuple #[.string (mk []), .int .i64 (-2), .int .i64 0]) (by simp [results, Tryz.results66, go_sem]) rfl ?_
   exact HE.out _ HB2.out
  ·have hem : (mk c).toList.isEmpty = false := by
    rw [Lib.toList_data]
    cases hcc : c with
    | nil => exact absurd hcc h0
    | cons a r => rfl
   have q3 := rnames_any (mk c) (by omega) w2
   rw [tl_mk, HCL.out.1] at q3
   have hKne : K ≠ [] := fun e => h0 (by rw [HCL.out.2, e]; rfl)
   have hKl : 0 < K.length := List.length_pos_iff.2 hKne
   have HLK : Hid (lookN (ns.map toE) c = lookP (fun n => n.dir) (ns.map toE) (sl true K)) := by
    show _ = _
    rw [HLN.out]
    exact congrArg (lookP (fun n : Nd => n.dir) (ns.map toE)) HCL.out.2
   have hKm := HTW.out.1
   generalize hmc : mk c = C at *
   dsimp only
   go_wp2_with fail
   refine q3.mono ?_
   rintro e w3 ⟨v3, rfl, hrow3, hb3⟩
   clear q3
   obtain ⟨g, cap, rfl, hc1, hc2, hg, hcell, -⟩ := row_form hrow3 hKne
   have HB3 := hide' (HB2.out.trans (hb3.mono HB2.out.size))
   have HCE := hide' hcell
   clear hrow3 hb3 hcell HB2 hem
   dsimp only
   go_wp2_with fail
   go_loopw [9, 10, 11] (fun way i _ wr => ∃ j : Nat, j ≤ K.length - 1 ∧ i = .int .i64 j ∧ way = .string (mk (sl true (K.take j))) ∧ OnWay (fun n : Nd => n.dir) (ns.map toE) K j ∧ wr = w3) (fun _ i _ _ => K.length - (intOf i).toNat)
   case atStart => exact ⟨0, by omega, rfl, rfl, way_start _ _ _, rfl⟩
   case round =>
    obtain ⟨j, hj, rfl, rfl, HW0, rfl⟩ := hrel
    have HW := hide' HW0
    clear HW0
    have kk : ((K.length - 1 : Nat) : Int) = (K.length : Int) - 1 := by omega
    by_cases hj1 : j + 1 < K.length
    ·have kj : (j : Int) < (K.length : Int) - 1 := by omega
     have hx : wr.cell? ⟨g, j, none⟩ = some (.string (mk (K.getD j []))) := HCE.out j (by omega)
     have hz1 := HTW.out.2 j
     have hz2 := HTW.out.2 (j + 1)
     rw [← mk_size] at hz1
     have hkd : (mk (K.getD j [])).size ≤ 300001 := by
      rw [mk_size]
      rcases Nat.eq_zero_or_pos j with h00 | h00
      ·subst h00
       rw [← way_first hKl]
       exact hz2
      ·rw [way_slash h00 (by omega)] at hz2
       simp only [List.length_append, List.length_cons] at hz2
       omega
     by_cases h00 : j = 0
     ·subst h00
      have HJ : Hid (mk (sl true (K.take 0)) ++ mk (K.getD 0 []) = mk (sl true (K.take (0 + 1)))) := by
       show _ = _
       exact tl_inj _ _ (by rw [tl_mk, way_first hKl]; simp [tl, ByteArray.data_append, sl])
      have q4 := rat_any R v ns clk rm (sl true (K.take (0 + 1))) wr (HR.out.below HB3.out) (HN.out.below HB3.out) HS.out hl
      rw [← HJ.out] at q4
      generalize mk (sl true (K.take 0)) = XS at *
      generalize mk (K.getD 0 []) = YS at *
      clear hz2
      go_wp2_with fail
      refine q4.mono ?_
      rintro e w4 ⟨⟨x, rfl, hx⟩, hw4⟩
      clear q4
      obtain rfl := hw4.symm
      rcases hx with ⟨rfl, hf⟩ | ⟨i, n, rfl, hi, hp⟩
      ·have HE := hide' (HRT.out (-1) 10 (by rw [HLK.out, way_none (fun n => n.dir) _ HGK.out hj1 HW.out hf]; exact ⟨rfl, rfl⟩))
       clear hf
       dsimp only
       go_wp2_with fail
       refine bodyPost_ret (v := .tuple #[.string (C), .int .i64 (-1), .int .i64 10]) (by simp [results, Tryz.results66, go_sem]) rfl ?_
       exact HE.out _ HB3.out
      ·have hff : fnd (ns.map toE) (sl true (K.take (0 + 1))) = some n.nd := HS.out.fnd (List.mem_map.2 ⟨n, List.mem_of_getElem? hi, by rw [← hp]; rfl⟩)
       have hb0 := (HR.out.below HB3.out).cells
       have hil := (List.getElem?_eq_some_iff.1 hi).1
       rcases HN.out.below HB3.out with ⟨_, e0⟩ | ⟨g2, o2, cap2, hv2, hc2, hrow, -⟩
       ·rw [e0] at hi
        simp at hi
       ·cases hv2
        have c1 := hrow.c1 i n hi
        have ki : (i : Int) < ns.length := by omega
        have ki0 : ¬ (i : Int) < 0 := by omega
        cases hd : n.nd.dir with
        | false =>
         have HE := hide' (HRT.out (-1) 11 (by rw [HLK.out, way_file (fun n => n.dir) _ HGK.out hj1 HW.out hff hd]; exact ⟨rfl, rfl⟩))
         rw [hd] at c1
         clear hff hrow hi hp hd
         dsimp only
         go_wp2_with fail
         refine bodyPost_ret (v := .tuple #[.string (C), .int .i64 (-1), .int .i64 11]) (by simp [results, Tryz.results66, go_sem]) rfl ?_
         exact HE.out _ HB3.out
        | true =>
         have HNX := hide' (way_on (fun n => n.dir) _ HGK.out (by omega) HW.out hff hd)
         rw [hd] at c1
         clear hff hrow hi hp hd
         dsimp only
         go_wp2_with fail
         exact ⟨⟨0 + 1, by omega, by simp, by rw [HJ.out], HNX.out, by trivial⟩, by simp [intOf]; omega⟩
     ·have h0p : 0 < j := by omega
      have kp : (0 : Int) < (j : Int) := by omega
      have HJ : Hid (mk (sl true (K.take j)) ++ (⟨#[47]⟩ : ByteArray) ++ mk (K.getD j []) = mk (sl true (K.take (j + 1)))) := by
       show _ = _
       exact tl_inj _ _ (by rw [tl_mk, way_slash h0p (by omega)]; simp [tl, ByteArray.data_append])
      have q4 := rat_any R v ns clk rm (sl true (K.take (j + 1))) wr (HR.out.below HB3.out) (HN.out.below HB3.out) HS.out hl
      rw [← HJ.out] at q4
      generalize mk (sl true (K.take j)) = XS at *
      generalize mk (K.getD j []) = YS at *
      clear hz2
      go_wp2_with fail
      refine q4.mono ?_
      rintro e w4 ⟨⟨x, rfl, hx⟩, hw4⟩
      clear q4
      obtain rfl := hw4.symm
      rcases hx with ⟨rfl, hf⟩ | ⟨i, n, rfl, hi, hp⟩
      ·have HE := hide' (HRT.out (-1) 10 (by rw [HLK.out, way_none (fun n => n.dir) _ HGK.out hj1 HW.out hf]; exact ⟨rfl, rfl⟩))
       clear hf
       dsimp only
       go_wp2_with fail
       refine bodyPost_ret (v := .tuple #[.string (C), .int .i64 (-1), .int .i64 10]) (by simp [results, Tryz.results66, go_sem]) rfl ?_
       exact HE.out _ HB3.out
      ·have hff : fnd (ns.map toE) (sl true (K.take (j + 1))) = some n.nd := HS.out.fnd (List.mem_map.2 ⟨n, List.mem_of_getElem? hi, by rw [← hp]; rfl⟩)
       have hb0 := (HR.out.below HB3.out).cells
       have hil := (List.getElem?_eq_some_iff.1 hi).1
       rcases HN.out.below HB3.out with ⟨_, e0⟩ | ⟨g2, o2, cap2, hv2, hc2, hrow, -⟩
       ·rw [e0] at hi
        simp at hi
       ·cases hv2
        have c1 := hrow.c1 i n hi
        have ki : (i : Int) < ns.length := by omega
        have ki0 : ¬ (i : Int) < 0 := by omega
        cases hd : n.nd.dir with
        | false =>
         have HE := hide' (HRT.out (-1) 11 (by rw [HLK.out, way_file (fun n => n.dir) _ HGK.out hj1 HW.out hff hd]; exact ⟨rfl, rfl⟩))
         rw [hd] at c1
         clear hff hrow hi hp hd
         dsimp only
         go_wp2_with fail
         refine bodyPost_ret (v := .tuple #[.string (C), .int .i64 (-1), .int .i64 11]) (by simp [results, Tryz.results66, go_sem]) rfl ?_
         exact HE.out _ HB3.out
        | true =>
         have HNX := hide' (way_on (fun n => n.dir) _ HGK.out (by omega) HW.out hff hd)
         rw [hd] at c1
         clear hff hrow hi hp hd
         dsimp only
         go_wp2_with fail
         exact ⟨⟨j + 1, by omega, by simp, by rw [HJ.out], HNX.out, by trivial⟩, by simp [intOf]; omega⟩
    ·obtain rfl : j = K.length - 1 := by omega
     have kj : ¬ ((K.length - 1 : Nat) : Int) < (K.length : Int) - 1 := by omega
     have q4 := rat_any R v ns clk rm c wr (HR.out.below HB3.out) (HN.out.below HB3.out) HS.out hl
     rw [hmc] at q4
     have hwe := way_end (fun n : Nd => n.dir) (ns.map toE) HGK.out hKne HW.out
     rw [← HCL.out.2] at hwe
     have HWE := hide' hwe
     clear hwe HW
     go_wp2_with fail
     refine q4.mono ?_
     rintro e w4 ⟨⟨x, rfl, hx⟩, rfl⟩
     clear q4
     have HE : Hid (LookR w ns c (.returned (.tuple #[.string C, .int .i64 x, .int .i64 0])) w4) := by
      show LookR _ _ _ _ _
      refine HRT.out x 0 ?_ _ HB3.out
      rw [HLN.out, HWE.out]
      rcases hx with ⟨rfl, hf⟩ | ⟨i, n, rfl, hi, hp⟩
      ·rw [hf]
       exact ⟨rfl, rfl⟩
      ·rw [HS.out.fnd (x := n.nd) (List.mem_map.2 ⟨n, List.mem_of_getElem? hi, by rw [← hp]; rfl⟩)]
       exact ⟨rfl, i, n, rfl, hi, hp, rfl⟩
     clear hx HWE
     dsimp only
     go_wp2_with fail
     refine bodyPost_ret (v := .tuple #[.string C, .int .i64 x, .int .i64 0]) (by simp [results, Tryz.results66, go_sem]) rfl ?_
     exact HE.out
end Go.Proofs.YtabmnkddmdffkaaGreatDoor
namespace Go.Proofs.YtabmnkddmdffkaaGreatDoor
open Go.RowKit Go.Maps
theorem res50 (tmps : Array Value) (b : Nat) (x y z : Value) (W : World) (h4 : tmps.getD 4 undef = .pointer (some ⟨b, 0, none⟩)) (hb : W.heap[b]? = some (.cells #[x, y, z] 88 (0, 0))) : (results Tryz.f37 tmps).run Tryz.prog W = .ok (.agg #[x, y, z]) W := by
 simp only [Array.getD_eq_getD_getElem?] at h4
 have c0 : W.cell? ⟨b, 0, none⟩ = some x := by rw [Lib.cell_of_heap hb]; rfl
 have c1 : W.cell? ⟨b, 1, none⟩ = some y := by rw [Lib.cell_of_heap hb]; rfl
 have c2 : W.cell? ⟨b, 2, none⟩ = some z := by rw [Lib.cell_of_heap hb]; rfl
 simp [results, Tryz.results37, go_sem, h4, c0, c1, c2]
set_option maxRecDepth 100000 in
set_option maxHeartbeats 4000000 in
theorem rstat_any (R : Nat) (v : Value) (ns : List Nv) (clk rm : Int) (P : ByteArray) (w : World) (hR : Rb w R v clk rm) (h : Nodes w v ns) (hs : Srt (ns.map toE)) (hl : ns.length ≤ 1000) (hP : P.size ≤ 300000) :
  Calls Tryz.prog 37 #[.pointer (some ⟨R, 0, none⟩), .string P] w fun e w' => e = .returned (statV (statR (ns.map toE) (clean (tl P)))) ∧ Below w.heap.size w w' := by
 obtain ⟨w0, hw0⟩ : ∃ w0, w0 = w.alloc (.cells #[.int .i64 0, .int .i64 0, .int .i64 0] 88) := ⟨_, rfl⟩
 have hb0 : Below w.heap.size w w0 := by rw [hw0]; exact (Below.refl _ _).alloc (Nat.le_refl _) _
 have zb : w0.heap[w.heap.size]? = some (.cells #[.int .i64 0, .int .i64 0, .int .i64 0] 88 (0, 0)) := by rw [hw0]; exact heap_alloc_new w _
 have q := rlook_any R v ns clk rm P w0 (hR.below hb0) (h.below hb0) hs hl hP
 generalize clean (tl P) = c at q ⊢
 generalize hst : statR (ns.map toE) c = st
 have HST := hide' hst
 clear hst
 have HW0 := hide' hw0
 have HR := hide' hR
 have HN := hide' h
 have Hb0 := hide' hb0
 have HZ := hide' zb
 clear hw0 hR h hb0 zb hs
 go_enter Tryz.func37, Tryz.ntmps37
 go_wp2_with fail
 rw [← HW0.out]
 refine q.mono ?_
 rintro e w1 ⟨hb1, k, er, rfl, hm⟩
 clear q
 have hB1 : Below w.heap.size w w1 := Hb0.out.trans (hb1.mono Hb0.out.size)
 have hzz := (hb1.block _ (lt_of_block HZ.out)).trans HZ.out
 have z0 : w1.cell? ⟨w.heap.size, 0, none⟩ = some (.int .i64 0) := by rw [Lib.cell_of_heap hzz]; rfl
 have z1 : w1.cell? ⟨w.heap.size, 1, none⟩ = some (.int .i64 0) := by rw [Lib.cell_of_heap hzz]; rfl
 have z2 : w1.cell? ⟨w.heap.size, 2, none⟩ = some (.int .i64 0) := by rw [Lib.cell_of_heap hzz]; rfl
 have f0 := Lib.frozen_of_heap hzz 0
 have f1 := Lib.frozen_of_heap hzz 1
 have f2 := Lib.frozen_of_heap hzz 2
 have HEND := hide' (fun x y z => stat_end (x := x) (y := y) (z := z) hB1 hzz)
 have HB1 := hide' hB1
 have HZZ := hide' hzz
 clear HW0 HZ hzz hb1 hB1
 cases hk : lookN (ns.map toE) c with
 | bad m =>
  have hs0 : st = (0, 0, 0) := by rw [← HST.out]; unfold statR; rw [hk]
  subst hs0
  rw [hk] at hm
  obtain ⟨rfl, rfl⟩ := hm
  clear hk HST
  by_cases hm0 : m = 0
  ·subst hm0
   dsimp only
   go_wp2
   refine bodyPost_ret (res50 _ _ _ _ _ _ rfl (HEND.out _ _ _).1) rfl ?_
   exact ⟨rfl, (HEND.out _ _ _).2⟩
  ·have h1 : ((m : Int) == 0) = false := beq_eq_false_iff_ne.2 (by omega)
   have h2 : ¬ (m : Int) = 0 := by omega
   dsimp only
   go_wp2
   refine bodyPost_ret (res50 _ _ _ _ _ _ rfl (HEND.out _ _ _).1) rfl ?_
   exact ⟨rfl, (HEND.out _ _ _).2⟩
 | non =>
  have hs0 : st = (0, 0, 0) := by rw [← HST.out]; unfold statR; rw [hk]
  subst hs0
  rw [hk] at hm
  obtain ⟨rfl, rfl⟩ := hm
  clear hk HST
  dsimp only
  go_wp2
  refine bodyPost_ret (res50 _ _ _ _ _ _ rfl (HEND.out _ _ _).1) rfl ?_
  exact ⟨rfl, (HEND.out _ _ _).2⟩
 | rt =>
  have hs0 : st = (2, 0, 0) := by rw [← HST.out]; unfold statR; rw [hk]
  subst hs0
  rw [hk] at hm
  obtain ⟨rfl, rfl⟩ := hm
  clear hk HST
  dsimp only
  go_wp2
  refine bodyPost_ret (res50 _ _ _ _ _ _ rfl (HEND.out _ _ _).1) rfl ?_
  exact ⟨rfl, (HEND.out _ _ _).2⟩
 | is x =>
  have hs0 : st = (if x.dir then (2, x.time, 0) else (1, x.time, (x.data.length : Int))) := by rw [← HST.out]; unfold statR; rw [hk]
  rw [hk] at hm
  obtain ⟨rfl, i, n, rfl, hi, hp, rfl⟩ := hm
  clear hk HST
  have hb0 := (HR.out.below HB1.out).cells
  have hil := (List.getElem?_eq_some_iff.1 hi).1
  rcases HN.out.below HB1.out with ⟨_, e0⟩ | ⟨g2, o2, cap2, hv2, hc2, hrow, hrd⟩
  ·rw [e0] at hi
   simp at hi
  ·cases hv2
   have c0 := hrow.c0 i n hi
   have c1 := hrow.c1 i n hi
   have c2 := hrow.c2 i n hi
   have c3 := hrow.c3 i n hi
   obtain ⟨da, dc, hdv⟩ := (hrd n (List.mem_of_getElem? hi)).len
   rw [hdv] at c3
   have ki : (i : Int) < ns.length := by omega
   have ki1 : ((i : Int) == -1) = false := beq_eq_false_iff_ne.2 (by omega)
   have ki2 : ¬ (i : Int) = -1 := by omega
   have ki3 : ((i : Int) == -2) = false := beq_eq_false_iff_ne.2 (by omega)
   have ki4 : ¬ (i : Int) = -2 := by omega
   clear hrow hrd hi hp hdv HR HN
   generalize n.nd.data.length = dl at *
   cases hd : n.nd.dir with
   | false =>
    rw [hd] at hs0 c1
    simp only [Bool.false_eq_true, if_false] at hs0
    subst hs0
    obtain ⟨w2, hw2⟩ : ∃ w2, w2 = w1.alloc (.cells #[.string (mk n.path), .bool false, .int .i64 n.nd.time, .slice da dl dc] 60) := ⟨_, rfl⟩
    have hb2 : Below w1.heap.size w1 w2 := by rw [hw2]; exact (Below.refl _ _).alloc (Nat.le_refl _) _
    have yb : w2.heap[w1.heap.size]? = some (.cells #[.string (mk n.path), .bool false, .int .i64 n.nd.time, .slice da dl dc] 60 (0, 0)) := by rw [hw2]; exact heap_alloc_new w1 _
    have y1 : w2.cell? ⟨w1.heap.size, 1, none⟩ = some (.bool false) := by rw [Lib.cell_of_heap yb]; rfl
    have y2 : w2.cell? ⟨w1.heap.size, 2, none⟩ = some (.int .i64 n.nd.time) := by rw [Lib.cell_of_heap yb]; rfl
    have y3 : w2.cell? ⟨w1.heap.size, 3, none⟩ = some (.slice da dl dc) := by rw [Lib.cell_of_heap yb]; rfl
    have hzz := (hb2.block _ (lt_of_block HZZ.out)).trans HZZ.out
    have z0' : w2.cell? ⟨w.heap.size, 0, none⟩ = some (.int .i64 0) := by rw [Lib.cell_of_heap hzz]; rfl
    have z1' : w2.cell? ⟨w.heap.size, 1, none⟩ = some (.int .i64 0) := by rw [Lib.cell_of_heap hzz]; rfl
    have z2' : w2.cell? ⟨w.heap.size, 2, none⟩ = some (.int .i64 0) := by rw [Lib.cell_of_heap hzz]; rfl
    have f0' := Lib.frozen_of_heap hzz 0
    have f1' := Lib.frozen_of_heap hzz 1
    have f2' := Lib.frozen_of_heap hzz 2
    have HEN2 := hide' (fun x y z => stat_end (x := x) (y := y) (z := z) (HB1.out.trans (hb2.mono HB1.out.size)) hzz)
    have HW2 := hide' hw2
    clear hw2 yb hzz hb2 HEND HZZ
    dsimp only
    go_upto_region 7 with fail
    rw [← HW2.out]
    clear HW2 c0 c1 c2 c3 z0 z1 z2 f0 f1 f2
    go_wp2
    refine bodyPost_ret (res50 _ _ _ _ _ _ rfl (HEN2.out _ _ _).1) rfl ?_
    exact ⟨rfl, (HEN2.out _ _ _).2⟩
   | true =>
    rw [hd] at hs0 c1
    simp only [if_true] at hs0
    subst hs0
    obtain ⟨w2, hw2⟩ : ∃ w2, w2 = w1.alloc (.cells #[.string (mk n.path), .bool true, .int .i64 n.nd.time, .slice da dl dc] 60) := ⟨_, rfl⟩
    have hb2 : Below w1.heap.size w1 w2 := by rw [hw2]; exact (Below.refl _ _).alloc (Nat.le_refl _) _
    have yb : w2.heap[w1.heap.size]? = some (.cells #[.string (mk n.path), .bool true, .int .i64 n.nd.time, .slice da dl dc] 60 (0, 0)) := by rw [hw2]; exact heap_alloc_new w1 _
    have y1 : w2.cell? ⟨w1.heap.size, 1, none⟩ = some (.bool true) := by rw [Lib.cell_of_heap yb]; rfl
    have y2 : w2.cell? ⟨w1.heap.size, 2, none⟩ = some (.int .i64 n.nd.time) := by rw [Lib.cell_of_heap yb]; rfl
    have y3 : w2.cell? ⟨w1.heap.size, 3, none⟩ = some (.slice da dl dc) := by rw [Lib.cell_of_heap yb]; rfl
    have hzz := (hb2.block _ (lt_of_block HZZ.out)).trans HZZ.out
    have z0' : w2.cell? ⟨w.heap.size, 0, none⟩ = some (.int .i64 0) := by rw [Lib.cell_of_heap hzz]; rfl
    have z1' : w2.cell? ⟨w.heap.size, 1, none⟩ = some (.int .i64 0) := by rw [Lib.cell_of_heap hzz]; rfl
    have z2' : w2.cell? ⟨w.heap.size, 2, none⟩ = some (.int .i64 0) := by rw [Lib.cell_of_heap hzz]; rfl
    have f0' := Lib.frozen_of_heap hzz 0
    have f1' := Lib.frozen_of_heap hzz 1
    have f2' := Lib.frozen_of_heap hzz 2
    have HEN2 := hide' (fun x y z => stat_end (x := x) (y := y) (z := z) (HB1.out.trans (hb2.mono HB1.out.size)) hzz)
    have HW2 := hide' hw2
    clear hw2 yb hzz hb2 HEND HZZ
    dsimp only
    go_upto_region 7 with fail
    rw [← HW2.out]
    clear HW2 c0 c1 c2 c3 z0 z1 z2 f0 f1 f2
    go_wp2
    refine bodyPost_ret (res50 _ _ _ _ _ _ rfl (HEN2.out _ _ _).1) rfl ?_
    exact ⟨rfl, (HEN2.out _ _ _).2⟩
end Go.Proofs.YtabmnkddmdffkaaGreatDoor
namespace Go.Proofs.YtabmnkddmdffkaaGreatDoor
open Go.RowKit Go.Maps
theorem wp_append_own2 {v x : Value} {xs ys : Bs} (w : World) {o : Oper} {a : Act} {K : Act → World → Prop} {Q : Exit → Act → World → Prop} (s y : Operand)
  (ho : o.op = .call { callee := .builtin .append, args := #[s, y], argTypes := #[57, 57] }) (hs : a.eval s = v) (hy : a.eval y = x)
  (hv : Dat w v xs) (hx : Rds w x ys) (hsz : xs.length + ys.length ≤ 1099511627776)
  (h : ∀ v' w', Dat w' v' (xs ++ ys) → Dat w' v xs → w.grownBy w' v.ownBlock → (v'.ownBlock = v.ownBlock ∨ v'.ownBlock = some w.heap.size) → K (a.put o.dst v') w') :
  o.wp Tryz.prog a w K Q := by
 obtain ⟨v', w', hr, h2, h3, h4, h5⟩ := append_dat o.type w hv hx hsz
 unfold Oper.wp execOp
 simp only [ho, resolve, invoke, builtin, Sem.run_bind, Sem.run_pure, Result.andThen_ok, List.map_toArray, List.map_cons, List.map_nil, hs, hy, hr]
 exact h v' w' h2 h3 h4 h5
structure LnC (b : Nat) (dv : Value) (w : World) : Prop where
 c3 : w.cell? ⟨b, 3, none⟩ = some dv
def readR (T : Tr) (p : Bs) : Nat ⊕ Bs := match lookN T p with
 | .bad m => .inl m
 | .non => .inl 10
 | .rt => .inl 12
 | .is n => if n.dir then .inl 12 else .inr n.data
def ReadV (w : World) (r : Nat ⊕ Bs) (e : Ending) (w' : World) : Prop := Below w.heap.size w w' ∧ ∃ (bv : Value) (er : Int), e = .returned (.tuple #[bv, .int .i64 er]) ∧ match r with
 | .inl m => bv = .slice none 0 0 ∧ er = m
 | .inr bs => Dat w' bv bs ∧ er = 0 ∧ ∀ g, bv.ownBlock = some g → w.heap.size ≤ g
set_option maxRecDepth 100000 in
set_option maxHeartbeats 4000000 in
theorem rread_any (R : Nat) (v : Value) (ns : List Nv) (clk rm : Int) (P : ByteArray) (w : World) (hR : Rb w R v clk rm) (h : Nodes w v ns) (hs : Srt (ns.map toE)) (hl : ns.length ≤ 1000) (hP : P.size ≤ 300000) (hD : ∀ n ∈ ns, n.nd.data.length ≤ 65536) (hB0 : ∀ m, lookN (ns.map toE) (clean (tl P)) = .bad m → m ≠ 0) :
  Calls Tryz.prog 64 #[.pointer (some ⟨R, 0, none⟩), .string P] w (ReadV w (readR (ns.map toE) (clean (tl P)))) := by
 have q := rlook_any R v ns clk rm P w hR h hs hl hP
 generalize clean (tl P) = c at q hB0 ⊢
 generalize hst : readR (ns.map toE) c = st
 have HST := hide' hst
 have HR := hide' hR
 have HN := hide' h
 clear hst hR h hs
 go_enter Tryz.func64, Tryz.ntmps64
 go_wp2_with fail
 refine q.mono ?_
 rintro e w1 ⟨hb1, k, er, rfl, hm⟩
 clear q
 have HB1 := hide' hb1
 clear hb1
 cases hk : lookN (ns.map toE) c with
 | bad m =>
  have hs0 : st = .inl m := by rw [← HST.out]; unfold readR; rw [hk]
  have hm0 := hB0 m hk
  subst hs0
  rw [hk] at hm
  obtain ⟨rfl, rfl⟩ := hm
  have h1 : ((m : Int) == 0) = false := beq_eq_false_iff_ne.2 (by omega)
  have h2 : ¬ (m : Int) = 0 := by omega
  clear hk HST hB0
  dsimp only
  go_wp2_with fail
  refine bodyPost_ret (v := .tuple #[.slice none 0 0, .int .i64 m]) (by simp [results, Tryz.results64, go_sem]) rfl ?_
  exact ⟨HB1.out, _, _, rfl, rfl, rfl⟩
 | non =>
  have hs0 : st = .inl 10 := by rw [← HST.out]; unfold readR; rw [hk]
  subst hs0
  rw [hk] at hm
  obtain ⟨rfl, rfl⟩ := hm
  clear hk HST hB0
  dsimp only
  go_wp2_with fail
  refine bodyPost_ret (v := .tuple #[.slice none 0 0, .int .i64 10]) (by simp [results, Tryz.results64, go_sem]) rfl ?_
  exact ⟨HB1.out, _, _, rfl, rfl, rfl⟩
 | rt =>
  have hs0 : st = .inl 12 := by rw [← HST.out]; unfold readR; rw [hk]
  subst hs0
  rw [hk] at hm
  obtain ⟨rfl, rfl⟩ := hm
  clear hk HST hB0
  dsimp only
  go_wp2_with fail
  refine bodyPost_ret (v := .tuple #[.slice none 0 0, .int .i64 12]) (by simp [results, Tryz.results64, go_sem]) rfl ?_
  exact ⟨HB1.out, _, _, rfl, rfl, rfl⟩
 | is x =>
  have hs0 : st = (if x.dir then .inl 12 else .inr x.data) := by rw [← HST.out]; unfold readR; rw [hk]
  rw [hk] at hm
  obtain ⟨rfl, i, n, rfl, hi, hp, rfl⟩ := hm
  clear hk HST hB0
  have hb0 := (HR.out.below HB1.out).cells
  have hil := (List.getElem?_eq_some_iff.1 hi).1
  have hmem := List.mem_of_getElem? hi
  rcases HN.out.below HB1.out with ⟨_, e0⟩ | ⟨g2, o2, cap2, hv2, hc2, hrow, hrd⟩
  ·rw [e0] at hi
   simp at hi
  ·cases hv2
   have c1 := hrow.c1 i n hi
   have c3 := hrow.c3 i n hi
   have hrn := hrd n hmem
   have hdl := hD n hmem
   have ki : (i : Int) < ns.length := by omega
   have ki1 : ((i : Int) == -1) = false := beq_eq_false_iff_ne.2 (by omega)
   have ki2 : ¬ (i : Int) = -1 := by omega
   have ki3 : ((i : Int) == -2) = false := beq_eq_false_iff_ne.2 (by omega)
   have ki4 : ¬ (i : Int) = -2 := by omega
   clear hrow hrd hi hp HR HN hD hmem
   cases hd : n.nd.dir with
   | true =>
    rw [hd] at hs0 c1
    simp only [if_true] at hs0
    subst hs0
    clear hrn
    dsimp only
    go_wp2_with fail
    refine bodyPost_ret (v := .tuple #[.slice none 0 0, .int .i64 12]) (by simp [results, Tryz.results64, go_sem]) rfl ?_
    exact ⟨HB1.out, _, _, rfl, rfl, rfl⟩
   | false =>
    rw [hd] at hs0 c1
    simp only [Bool.false_eq_true, if_false] at hs0
    subst hs0
    dsimp only
    go_wp2_with (at_builtin; refine wpList_plain rfl fun _ hK => ?_; refine wp_append_own2 (v := .slice none 0 0) _ _ _ rfl rfl rfl (Dat.nil _) hrn (by simp; omega) ?_; intro v' w2 hd2 _ hg2 hat; refine hK _ _ ?_)
    have hB2 : Below w.heap.size w w2 := HB1.out.trans ⟨hg2.os, hg2.tape, hg2.output, hg2.size, fun k hk => hg2.block k (Nat.lt_of_lt_of_le hk HB1.out.size) fun e => by cases e⟩
    have hown : ∀ g, v'.ownBlock = some g → w.heap.size ≤ g := fun g hg => by
     rcases hat with h9 | h9
     ·rw [h9] at hg
      cases hg
     ·rw [h9] at hg
      cases hg
      exact HB1.out.size
    rw [List.nil_append] at hd2
    have HF := hide' (And.intro hB2 (And.intro hd2 hown))
    clear hB2 hd2 hown hg2 hat hrn
    go_wp2_with fail
    refine bodyPost_ret (v := .tuple #[v', .int .i64 0]) (by simp [results, Tryz.results64, go_sem]) rfl ?_
    exact ⟨HF.out.1, _, _, rfl, HF.out.2.1, rfl, HF.out.2.2⟩
end Go.Proofs.YtabmnkddmdffkaaGreatDoor
namespace Go.Proofs.YtabmnkddmdffkaaGreatDoor
open Go.RowKit Go.Maps
set_option maxRecDepth 100000 in
set_option maxHeartbeats 4000000 in
theorem Read_any (B A : Nat) (E : Addr) (T : Tr) (clk rm : Int) (s : ByteArray) (S : Nat → Prop) (w : World) (h : IsFs w S A T clk rm) (hG : Glo B w E) (hB : B ≤ w.heap.size) (hs : s.size ≤ 400000) (hD : ∀ e ∈ T, e.2.data.length ≤ 1000000) :
  Calls Tryz.prog 89 #[.pointer (some ⟨A, 0, none⟩), .string s] w (ReadV w (readR T (clean (tl s)))) := by
 obtain ⟨M, L, hF, hO, rfl⟩ := h.mem
 have q1 := clean_any s (by omega)
 have q2 := fun w1 (hb : Below w.heap.size w w1) => file_any B A M L (weight (nds L)) clk rm (clean (tl s)) w1 E (hF.below hb) (hG.keep (hb.mono hB)) (Nat.le_trans hB hb.size) (cln_len s hs)
 unfold readR
 rw [lookV_nd]
 generalize clean (tl s) = c at q1 q2
 cases hl : lookV L c with
 | bad n =>
  rw [hl] at q2
  simp only [Lk.map]
  go_enter Tryz.func89, Tryz.ntmps89
  go_wp2_with fail
  refine (orEmpty_some A _).mono ?_
  rintro r w0 ⟨rfl, hw0⟩
  obtain rfl : w = w0 := hw0.symm
  go_wp2_with fail
  refine (q1 _).mono ?_
  rintro r w1 ⟨rfl, hb1⟩
  go_wp2_with fail
  refine (q2 w1 hb1).mono ?_
  rintro r w2 ⟨⟨b, rfl, hf⟩, hb2⟩
  have hB2 : Below w.heap.size w w2 := hb1.trans (hb2.mono hb1.size)
  have q3 := number_any B E _ (.no n) w2 (hG.keep (hB2.mono hB)) ⟨b, rfl, hf⟩
  have HB2 := hide' hB2
  clear hb1 hb2 hB2 hf
  go_wp2_with fail
  refine q3.mono ?_
  rintro r w3 ⟨rfl, hb3⟩
  have HB3 := hide' (HB2.out.trans (hb3.mono HB2.out.size))
  clear hb3 q3 HB2
  dsimp only [Er.num]
  go_wp2_with fail
  refine bodyPost_ret (v := .tuple #[.slice none 0 0, .int .i64 n]) (by simp [results, Tryz.results89, go_sem]) rfl ?_
  exact ⟨HB3.out, _, _, rfl, rfl, rfl⟩
 | non =>
  rw [hl] at q2
  simp only [Lk.map]
  go_enter Tryz.func89, Tryz.ntmps89
  go_wp2_with fail
  refine (orEmpty_some A _).mono ?_
  rintro r w0 ⟨rfl, hw0⟩
  obtain rfl : w = w0 := hw0.symm
  go_wp2_with fail
  refine (q1 _).mono ?_
  rintro r w1 ⟨rfl, hb1⟩
  go_wp2_with fail
  refine (q2 w1 hb1).mono ?_
  rintro r w2 ⟨⟨b, rfl, hf⟩, hb2⟩
  have hB2 : Below w.heap.size w w2 := hb1.trans (hb2.mono hb1.size)
  have q3 := number_any B E _ .nothing w2 (hG.keep (hB2.mono hB)) ⟨b, rfl, hf⟩
  have HB2 := hide' hB2
  clear hb1 hb2 hB2 hf
  go_wp2_with fail
  refine q3.mono ?_
  rintro r w3 ⟨rfl, hb3⟩
  have HB3 := hide' (HB2.out.trans (hb3.mono HB2.out.size))
  clear hb3 q3 HB2
  dsimp only [Er.num]
  go_wp2_with fail
  refine bodyPost_ret (v := .tuple #[.slice none 0 0, .int .i64 10]) (by simp [results, Tryz.results89, go_sem]) rfl ?_
  exact ⟨HB3.out, _, _, rfl, rfl, rfl⟩
 | rt =>
  rw [hl] at q2
  simp only [Lk.map]
  go_enter Tryz.func89, Tryz.ntmps89
  go_wp2_with fail
  refine (orEmpty_some A _).mono ?_
  rintro r w0 ⟨rfl, hw0⟩
  obtain rfl : w = w0 := hw0.symm
  go_wp2_with fail
  refine (q1 _).mono ?_
  rintro r w1 ⟨rfl, hb1⟩
  go_wp2_with fail
  refine (q2 w1 hb1).mono ?_
  rintro r w2 ⟨⟨b, rfl, hf⟩, hb2⟩
  have hB2 : Below w.heap.size w w2 := hb1.trans (hb2.mono hb1.size)
  have q3 := number_any B E _ (.no 12) w2 (hG.keep (hB2.mono hB)) ⟨b, rfl, hf⟩
  have HB2 := hide' hB2
  clear hb1 hb2 hB2 hf
  go_wp2_with fail
  refine q3.mono ?_
  rintro r w3 ⟨rfl, hb3⟩
  have HB3 := hide' (HB2.out.trans (hb3.mono HB2.out.size))
  clear hb3 q3 HB2
  dsimp only [Er.num]
  go_wp2_with fail
  refine bodyPost_ret (v := .tuple #[.slice none 0 0, .int .i64 12]) (by simp [results, Tryz.results89, go_sem]) rfl ?_
  exact ⟨HB3.out, _, _, rfl, rfl, rfl⟩
 | is e =>
  rw [hl] at q2
  simp only [Lk.map]
  obtain ⟨k, hm⟩ := lookV_mem hl
  cases hd : e.nd.dir with
  | true =>
   have q2' := q2
   simp only [fileOf, hd, if_true] at q2'
   clear q2
   have q2 := q2'
   clear q2'
   simp only [if_true]
   go_enter Tryz.func89, Tryz.ntmps89
   go_wp2_with fail
   refine (orEmpty_some A _).mono ?_
   rintro r w0 ⟨rfl, hw0⟩
   obtain rfl : w = w0 := hw0.symm
   go_wp2_with fail
   refine (q1 _).mono ?_
   rintro r w1 ⟨rfl, hb1⟩
   go_wp2_with fail
   refine (q2 w1 hb1).mono ?_
   rintro r w2 ⟨⟨b, rfl, hf⟩, hb2⟩
   have hB2 : Below w.heap.size w w2 := hb1.trans (hb2.mono hb1.size)
   have q3 := number_any B E _ (.no 12) w2 (hG.keep (hB2.mono hB)) ⟨b, rfl, hf⟩
   have HB2 := hide' hB2
   clear hb1 hb2 hB2 hf
   go_wp2_with fail
   refine q3.mono ?_
   rintro r w3 ⟨rfl, hb3⟩
   have HB3 := hide' (HB2.out.trans (hb3.mono HB2.out.size))
   clear hb3 q3 HB2
   dsimp only [Er.num]
   go_wp2_with fail
   refine bodyPost_ret (v := .tuple #[.slice none 0 0, .int .i64 12]) (by simp [results, Tryz.results89, go_sem]) rfl ?_
   exact ⟨HB3.out, _, _, rfl, rfl, rfl⟩
  | false =>
   simp only [Bool.false_eq_true, if_false]
   have q2' := q2
   simp only [fileOf, hd, Bool.false_eq_true, if_false] at q2'
   clear q2
   have q2 := q2'
   clear q2'
   have hn : NodeAt w e := hF.nodes _ hm
   have hdat := hO.dat _ hm
   have hdl : e.nd.data.length ≤ 1000000 := hD _ (List.mem_map.2 ⟨_, hm, rfl⟩)
   have hneq : ∀ w : World, (binOp .neq 62 .nilIface .nilIface).run Tryz.prog w = .ok (.bool false) w := fun w => by kernel_rfl
   go_enter Tryz.func89, Tryz.ntmps89
   go_wp2_with fail
   refine (orEmpty_some A _).mono ?_
   rintro r w0 ⟨rfl, hw0⟩
   obtain rfl : w = w0 := hw0.symm
   go_wp2_with fail
   refine (q1 _).mono ?_
   rintro r w1 ⟨rfl, hb1⟩
   go_wp2_with fail
   refine (q2 w1 hb1).mono ?_
   rintro r w2 ⟨rfl, hb2⟩
   have hB2 : Below w.heap.size w w2 := hb1.trans (hb2.mono hb1.size)
   have c2 := (hn.below hB2).c2
   have hrd := hdat.rds.below hB2
   have q3 := own_any _ _ w2 hrd (by omega)
   obtain ⟨da, dc, hdv⟩ := hrd.len
   rw [hdv] at q3 c2
   have HB2 := hide' hB2
   clear hb1 hb2 hB2 hrd hn hdat
   go_wp2_with fail
   refine q3.mono ?_
   rintro r w3 ⟨v', rfl, hd3, ho3, hb3⟩
   have HF := hide' (And.intro (HB2.out.trans (hb3.mono HB2.out.size)) (And.intro hd3 (fun g hg => (by rw [ho3 g hg]; exact HB2.out.size : w.heap.size ≤ g))))
   clear hb3 hd3 ho3 q3 HB2
   dsimp only
   go_wp2_with fail
   refine bodyPost_ret (v := .tuple #[v', .int .i64 0]) (by simp [results, Tryz.results89, go_sem]) rfl ?_
   exact ⟨HF.out.1, _, _, rfl, HF.out.2.1, rfl, HF.out.2.2⟩
end Go.Proofs.YtabmnkddmdffkaaGreatDoor
namespace Go.Proofs.YtabmnkddmdffkaaGreatDoor.Arc
open Go.RowKit Go.Maps Go.Shelf
def PsR (B : Nat) (bs : Bs) (w' : World) (r : Ending) : Prop :=
 (∃ v ms, r = .returned (.tuple #[v, .int .i64 0]) ∧ MsAt w' B v ms ∧ wrongR ms = 0 ∧ archB ms = bs ∧ scanR bs = some (ms.map tE)) ∨
 (∃ k : Nat, r = .returned (.tuple #[.slice none 0 0, .int .i64 k]) ∧ (k = 2 ∧ 65536 < bs.length ∨ k = 20 ∧ ¬ 65536 < bs.length) ∧ ∀ ms, wrongR ms = 0 → archB ms ≠ bs)
set_option maxRecDepth 100000 in
set_option maxHeartbeats 1000000 in
theorem Parse_bsl (a : Addr) (n cap : Nat) (bs : Bs) (w : World) (hR : Rds w (.slice (some a) n cap) bs) (hn : n = bs.length) (hcap : n ≤ cap) (hl : n ≤ 100000) (hE : Env w) (hS : EvS w) (hM : Mx w) (h3 : 9 < w.heap.size) :
  Calls Tryz.prog 90 #[.slice (some a) n cap] w fun r w' => Below w.heap.size w w' ∧ PsR w.heap.size bs w' r := by
 have q := parsed_bsl a n cap bs w hR hn hcap hl hE hS hM h3
 clear hn hR hE hS hM
 go_enter Tryz.func90, Tryz.ntmps90
 go_wp2_with fail
 refine q.mono ?_
 rintro r w1 ⟨hb, hp⟩
 clear q
 rcases hp with ⟨v, ms, rfl, hms, h1, h2, h4⟩ | ⟨e, k, rfl, hk, he, hno⟩
 ·have qn := number_any .nilIface 0 w1 (.inl ⟨rfl, rfl⟩) (by simp)
  obtain ⟨va, vc, hv⟩ := hms.mems.len
  subst hv
  have HK := hide' (And.intro hms (And.intro h1 (And.intro h2 h4)))
  clear hms h1 h2 h4
  dsimp only
  go_wp2_with fail
  refine qn.mono ?_
  rintro r w2 ⟨rfl, rfl⟩
  dsimp only
  go_wp2_with fail
  go_ret2
  exact ⟨hb, .inl ⟨_, ms, rfl, HK.out.1, HK.out.2.1, HK.out.2.2.1, HK.out.2.2.2⟩⟩
 ·have qn := number_any e k w1 he (by rcases hk with ⟨rfl, _⟩ | ⟨rfl, _⟩ <;> simp)
  have HK := hide' (And.intro hk hno)
  clear hk hno he
  dsimp only
  go_wp2_with fail
  refine qn.mono ?_
  rintro r w2 ⟨rfl, rfl⟩
  dsimp only
  go_wp2_with fail
  go_ret2
  exact ⟨hb, .inr ⟨k, rfl, HK.out.1, HK.out.2⟩⟩
theorem arch_ne (ms : List Mv) : archB ms ≠ [] := by
 unfold archB
 simp [magicB]
theorem Parse_any (v : Value) (bs : Bs) (w : World) (h : Tbs w v bs) (hl : bs.length ≤ 100000) (hE : Env w) (hS : EvS w) (hM : Mx w) (h3 : 9 < w.heap.size) : Calls Tryz.prog 90 #[v] w fun r w' => Below w.heap.size w w' ∧ PsR w.heap.size bs w' r := by
 rcases h with ⟨rfl, rfl⟩ | ⟨a, n, cap, rfl, hn, hc, hr⟩
 ·refine (Parse_nil w).mono ?_
  rintro r w' ⟨rfl, hb⟩
  exact ⟨hb, .inr ⟨20, rfl, .inr ⟨rfl, by simp⟩, fun ms _ => arch_ne ms⟩⟩
 ·exact Parse_bsl a n cap bs w hr hn hc (by omega) hE hS hM h3
theorem Dat.tbs {w : World} {v : Value} {bs : Bs} (h : Dat w v bs) : Tbs w v bs := by
 have hr := h.rds
 rcases h with ⟨rfl, rfl⟩ | ⟨g, cap, cur, rfl, h1, h2, h3, h4, h5⟩
 ·exact .inl ⟨rfl, rfl⟩
 ·exact .inr ⟨_, _, _, rfl, rfl, h2, hr⟩
end Go.Proofs.YtabmnkddmdffkaaGreatDoor.Arc
namespace Go.Proofs.YtabmnkddmdffkaaGreatDoor.Arc
open Go.RowKit Go.Maps Go.Shelf
theorem qArch (v : Value) (ms : List Mv) (w : World) (hM : Mems w v ms) (hl : ms.length ≤ 5001) (h : ∀ m ∈ ms, m.name.length ≤ 70000 ∧ m.data.length ≤ 70000) : Calls Tryz.prog 95 #[v] w fun r w' => Below w.heap.size w w' ∧ ((wrongR ms = 0 ∧ ∃ v, r = .returned (.tuple #[v, .int .i64 0]) ∧ Rds w' v (archB ms)) ∨ (wrongR ms ≠ 0 ∧ r = .returned (.tuple #[.slice none 0 0, .int .i64 (wrongR ms : Nat)]))) := by
 have hw : ∀ m ∈ ms, wtB m ≤ 140001 := fun m hm => by have := h m hm; unfold wtB; omega
 have hs : ∀ l : List Mv, (∀ m ∈ l, wtB m ≤ 140001) → sumM wtB l ≤ 140001 * l.length := by
  intro l
  induction l with
  | nil => intro _; simp [sumM]
  | cons m r ih =>
   intro h
   have h1 := h m (List.mem_cons_self ..)
   have := ih fun n hn => h n (List.mem_cons_of_mem _ hn)
   simp only [sumM, List.length_cons]
   omega
 exact arch_big v ms w hM (by have := hs ms hw; omega) (fun m hm => by have := hw m hm; omega)
def PK (bs : Bs) (ms : List Mv) (k : Nat) : Prop :=
 (k = 0 ∧ wrongR ms = 0 ∧ archB ms = bs) ∨ (ms = [] ∧ (k = 2 ∧ 65536 < bs.length ∨ k = 20 ∧ ¬ 65536 < bs.length) ∧ ∀ ns, wrongR ns = 0 → archB ns ≠ bs)
theorem pk_one {bs : Bs} {ms ns : List Mv} {k j : Nat} (h : PK bs ms k) (h' : PK bs ns j) : k = j ∧ ms.map toE = ns.map toE := by
 rcases h with ⟨rfl, h1, h2⟩ | ⟨rfl, h1, h2⟩
 ·rcases h' with ⟨rfl, h3, h4⟩ | ⟨rfl, h3, h4⟩
  ·refine ⟨rfl, ?_⟩
   have e1 := (arch_scan h1 h2).1
   have e2 := (arch_scan h3 h4).1
   rw [e1] at e2
   exact Option.some.inj e2
  ·exact absurd h2 (h4 ms h1)
 ·rcases h' with ⟨rfl, h3, h4⟩ | ⟨rfl, h3, h4⟩
  ·exact absurd h4 (h2 ns h3)
  ·exact ⟨by omega, rfl⟩
theorem pk_small {bs : Bs} {ms : List Mv} {k : Nat} (h : PK bs ms k) : ms.length ≤ 5000 ∧ ∀ m ∈ ms, m.data.length ≤ 1000000 := by
 rcases h with ⟨_, h1, _⟩ | ⟨rfl, _, _⟩
 ·obtain ⟨h2, h3, _⟩ := wrong_zero h1
  refine ⟨h2, fun m hm => ?_⟩
  have h4 := sumM_mem wtD hm
  unfold lenA at h3
  have h5 : m.data.length ≤ wtD m := by unfold wtD evn; omega
  omega
 ·exact ⟨by simp, fun m hm => by cases hm⟩
def PsU (B : Nat) (bs : Bs) (w' : World) (r : Ending) : Prop := ∃ va vc ms, ∃ k : Nat, r = .returned (.tuple #[.slice va ms.length vc, .int .i64 k]) ∧ MsAt w' B (.slice va ms.length vc) ms ∧ PK bs ms k
theorem psU {B : Nat} {bs : Bs} {w' : World} {r : Ending} (h : PsR B bs w' r) : PsU B bs w' r := by
 rcases h with ⟨v, ms, rfl, hms, h1, h2, _⟩ | ⟨k, rfl, hk, hno⟩
 ·obtain ⟨va, vc, hv⟩ := hms.mems.len
  subst hv
  exact ⟨va, vc, ms, 0, rfl, hms, .inl ⟨rfl, h1, h2⟩⟩
 ·exact ⟨none, 0, [], k, rfl, MsAt.nil _ _, .inr ⟨rfl, hk, hno⟩⟩
def RmU (bs : Bs) (w' : World) (r : Ending) : Prop := ∃ va vc ms, ∃ k : Nat, r = .returned (.tuple #[.slice va ms.length vc, .int .i64 k]) ∧ Mems w' (.slice va ms.length vc) ms ∧ PK bs ms k
theorem rmU {bs : Bs} {w' : World} {r : Ending} (h : RmR bs w' r) : RmU bs w' r := by
 rcases h with ⟨v, ms, rfl, hms, h1, h2⟩ | ⟨k, rfl, hk, hno⟩
 ·obtain ⟨va, vc, hv⟩ := hms.len
  subst hv
  exact ⟨va, vc, ms, 0, rfl, hms, .inl ⟨rfl, h1, h2⟩⟩
 ·exact ⟨none, 0, [], k, rfl, .inl ⟨⟨_, _, rfl⟩, rfl⟩, .inr ⟨rfl, hk, hno⟩⟩
theorem members_all (v : Value) (bs : Bs) (w : World) (h : Rds w v bs) (hl : bs.length ≤ 100000) : Calls Tryz.prog 65 #[v] w fun r w' => Below w.heap.size w w' ∧ RmU bs w' r := by
 obtain ⟨a, c, rfl⟩ := h.len
 refine (members_any' qArch a bs.length c bs w h rfl hl).mono ?_
 rintro r w' ⟨h1, h2⟩
 exact ⟨h1, rmU h2⟩
theorem parse_all (v : Value) (bs : Bs) (w : World) (h : Tbs w v bs) (hl : bs.length ≤ 100000) (hE : Env w) (hS : EvS w) (hM : Mx w) (h3 : 9 < w.heap.size) : Calls Tryz.prog 90 #[v] w fun r w' => Below w.heap.size w w' ∧ PsU w.heap.size bs w' r := by
 refine (Parse_any v bs w h hl hE hS hM h3).mono ?_
 rintro r w' ⟨h1, h2⟩
 exact ⟨h1, psU h2⟩
def dtM (ms : List Mv) (nm : Bs) : Option Int := (ms.find? fun m => m.name == nm).map (·.date)
def MdR (bs nm : Bs) (x : Option Int) : Prop := ∃ ms k, PK bs ms k ∧ x = dtM ms nm
theorem dtM_map : ∀ {ms ns : List Mv}, ms.map toE = ns.map toE → ∀ nm, dtM ms nm = dtM ns nm
 | [], [], _, _ => rfl
 | [], _ :: _, h, _ => by cases h
 | _ :: _, [], h, _ => by cases h
 | a :: ms, b :: ns, h, nm => by
  rw [List.map_cons, List.map_cons] at h
  injection h with h1 h2
  rw [toE_iff] at h1
  have ih := dtM_map h2 nm
  unfold dtM at ih ⊢
  rw [List.find?_cons, List.find?_cons, h1.1]
  by_cases hb : (b.name == nm) = true
  ·rw [hb]; simp [h1.2.1]
  ·rw [Bool.not_eq_true] at hb; rw [hb]; exact ih
theorem mdR_one {bs nm : Bs} {x y : Option Int} (h : MdR bs nm x) (h' : MdR bs nm y) : x = y := by
 obtain ⟨ms, k, h1, rfl⟩ := h
 obtain ⟨ns, j, h2, rfl⟩ := h'
 exact dtM_map (pk_one h1 h2).2 nm
open Classical in
noncomputable def mdP (bs nm : Bs) : Option Int := if h : ∃ x, MdR bs nm x then h.choose else none
theorem mdP_eq {bs nm : Bs} {ms : List Mv} {k : Nat} (h : PK bs ms k) : mdP bs nm = dtM ms nm := by
 have hx : ∃ x, MdR bs nm x := ⟨_, ms, k, h, rfl⟩
 unfold mdP
 rw [dif_pos hx]
 exact mdR_one hx.choose_spec ⟨ms, k, h, rfl⟩
theorem place_dtM (ms : List Mv) (nm : Bs) : (placeR ms nm = -1 ∧ dtM ms nm = none) ∨ ∃ k m, placeR ms nm = (k : Nat) ∧ ms[k]? = some m ∧ dtM ms nm = some m.date := by
 unfold placeR findN
 cases h : ms.findIdx? (fun m => m.name == nm) with
 | none =>
  refine .inl ⟨rfl, ?_⟩
  rw [List.findIdx?_eq_none_iff] at h
  unfold dtM
  rw [List.find?_eq_none.2 fun x hx => by rw [h x hx]; decide]
  rfl
 | some k =>
  obtain ⟨hk, h1, h2⟩ := List.findIdx?_eq_some_iff_getElem.1 h
  refine .inr ⟨k, ms[k], rfl, List.getElem?_eq_getElem hk, ?_⟩
  unfold dtM
  have hf : ms.find? (fun m => m.name == nm) = some ms[k] := List.find?_eq_some_iff_getElem.2 ⟨h1, k, hk, rfl, fun j hj => by simpa using h2 j hj⟩
  rw [hf]
  rfl
end Go.Proofs.YtabmnkddmdffkaaGreatDoor.Arc
namespace Go.Proofs.YtabmnkddmdffkaaGreatDoor.Sk
open Go.RowKit Go.Shelf
structure Arw (w : World) : Prop where
 env : Arc.Env w
 evs : Arc.EvS w
 mx : Arc.Mx w
theorem Arw.keep {w w' : World} {B : Nat} (h : Arw w) (hb : Below B w w') (hB : 9 < B) : Arw w' := ⟨h.env.keep hb (by omega), h.evs.below hb (by omega), h.mx.below hb (by omega)⟩
def rdB (T : Tr) (p : List UInt8) : List UInt8 := match readR T p with | .inl _ => [] | .inr bs => bs
noncomputable def mbT (T : Tr) (s : List UInt8) : Option Int := if isM s then Arc.mdP (rdB T (clean (pA s))) (pM s) else none
noncomputable def tmP (T : Tr) (s : List UInt8) : Option Int := (mbT T s).or (stT T (clean s))
theorem read_tbs {w w' : World} {T : Tr} {p : List UInt8} {e : Ending} (h : ReadV w (readR T p) e w') : Below w.heap.size w w' ∧ ∃ (bv : Value) (er : Int), e = .returned (.tuple #[bv, .int .i64 er]) ∧ Arc.Tbs w' bv (rdB T p) := by
 obtain ⟨hb, bv, er, rfl, h1⟩ := h
 refine ⟨hb, bv, er, rfl, ?_⟩
 unfold rdB
 cases hr : readR T p with
 | inl m => rw [hr] at h1; exact .inl ⟨h1.1, rfl⟩
 | inr bs => rw [hr] at h1; exact Arc.Dat.tbs h1.1
theorem lkOf_in {α : Type} {L : List (List UInt8 × α)} {q : List UInt8} {n : α} (h : lkOf (fnd L q) = .is n) : ∃ k, (k, n) ∈ L := by
 cases hf : fnd L q with
 | none => rw [hf] at h; cases h
 | some x => rw [hf] at h; injection h with h; subst h; exact ⟨_, fnd_mem hf⟩
theorem lookE_in {α : Type} (isd : α → Bool) (L : List (List UInt8 × α)) (p : List UInt8) : ∀ (l : List Nat) (st : Lk α) (n : α), l.foldl (stp isd L p) st = .is n → st = .is n ∨ ∃ k, (k, n) ∈ L
 | [], st, n, h => .inl h
 | i :: r, st, n, h => by
  rcases lookE_in isd L p r _ n h with h1 | h1
  ·cases st with
   | bad e => cases h1
   | non => cases h1
   | rt => exact .inr (lkOf_in h1)
   | is x =>
    simp only [stp] at h1
    split at h1
    ·exact .inr (lkOf_in h1)
    ·cases h1
  ·exact .inr h1
theorem lookN_in {T : Tr} {p : List UInt8} {n : Nd} (h : lookN T p = .is n) : ∃ k, (k, n) ∈ T := by
 unfold lookN at h
 split at h
 ·rcases lookE_in _ _ _ _ _ _ h with h1 | h1
  ·cases h1
  ·exact h1
 ·cases h
theorem rdB_len {T : Tr} {m : Nat} (hD : ∀ e ∈ T, e.2.data.length ≤ m) (p : List UInt8) : (rdB T p).length ≤ m := by
 unfold rdB readR
 split
 ·simp
 ·rename_i bs h
  split at h
  ·cases h
  ·cases h
  ·cases h
  ·rename_i n hn
   split at h
   ·cases h
   ·injection h with h1
    subst h1
    obtain ⟨q, hq⟩ := lookN_in hn
    exact hD _ hq
theorem pA_len (s : List UInt8) : (pA s).length ≤ s.length ∧ (pM s).length ≤ s.length := by
 have h1 : (bod s).length ≤ s.length := by unfold bod; rw [List.length_dropLast]; omega
 unfold pA pM
 constructor <;> split <;> simp <;> omega
set_option maxRecDepth 100000 in
set_option maxHeartbeats 1000000 in
theorem dated_mem (B A : Nat) (Ea E : Addr) (T : Tr) (clk rm : Int) (s : ByteArray) (hs : s.size ≤ 400000) (S : Nat → Prop) (w : World) (h : IsFs w S A T clk rm) (hG : Gl B w Ea E) (hB : B ≤ w.heap.size) (hX : Arw w) (h12 : 9 < w.heap.size)
  (hD : ∀ e ∈ T, e.2.data.length ≤ 100000) (hm : isM (tl s) = true) :
  Calls Tryz.prog 62 #[.pointer (some ⟨A, 0, none⟩), .string s] w fun e w' => DtV w' Ea e (Arc.mdP (rdB T (clean (pA (tl s)))) (pM (tl s))) ∧ Below w.heap.size w w' := by
 have q := parted_any s (by omega) w
 have hla : (pA (tl s)).length ≤ 400000 := Nat.le_trans (pA_len _).1 (by rw [tl_len]; exact hs)
 obtain ⟨xa, hxa⟩ : ∃ x, x = pA (tl s) := ⟨_, rfl⟩
 obtain ⟨xm, hxm⟩ : ∃ x, x = pM (tl s) := ⟨_, rfl⟩
 unfold prV at q
 rw [hm, ← hxa, ← hxm] at q
 rw [← hxa] at hla
 rw [← hxa, ← hxm]
 have qr := fun w1 (hb : Below w.heap.size w w1) => Read_any B A E T clk rm (mk xa) S w1 (h.below hb) (hG.glo.keep (hb.mono hB)) (Nat.le_trans hB hb.size) (by rw [mk_size]; exact hla) (fun e he => Nat.le_trans (hD e he) (by decide))
 rw [tl_mk] at qr
 have hbl := rdB_len hD (clean xa)
 have qp := fun w1 (hb : Below w.heap.size w w1) v (hv : Arc.Tbs w1 v (rdB T (clean xa))) => Arc.parse_all v _ w1 hv hbl (hX.keep hb h12).env (hX.keep hb h12).evs (hX.keep hb h12).mx (Nat.lt_of_lt_of_le h12 hb.size)
 have h0 : 0 < w.heap.size := by omega
 have hca := fun w1 (hb : Below w.heap.size w w1) => (hb.cell (p := ⟨0, 0, none⟩) h0).trans hG.ca
 obtain ⟨bs, hbs⟩ : ∃ x, x = rdB T (clean xa) := ⟨_, rfl⟩
 have qr2 := fun w1 (hb : Below w.heap.size w w1) => (qr w1 hb).mono fun e w' h => read_tbs h
 rw [← hbs] at qp qr2 ⊢
 clear h hG hX hD hm hxa hxm hla hbl hbs qr
 go_enter Tryz.func62, Tryz.ntmps62
 go_wp2_with fail
 refine q.mono ?_
 rintro e w1 ⟨rfl, hb1⟩
 clear q
 go_wp2_with fail
 refine (qr2 _ hb1).mono ?_
 rintro e w2 ⟨hb2, bv, er, rfl, hv⟩
 have hb12 := hb1.trans (hb2.mono hb1.size)
 clear qr2 hb1 hb2
 go_wp2_with fail
 refine (qp _ hb12 _ hv).mono ?_
 rintro e w3 ⟨hb3, va, vc, ms, k, rfl, hms, hpk⟩
 have hb13 := hb12.trans (hb3.mono hb12.size)
 have hsm := (Arc.pk_small hpk).1
 have hme := hms.mems
 have hmd := Arc.mdP_eq (nm := xm) hpk
 have qf := Arc.Find_any _ ms xm w3 hme (by omega)
 clear qp hv hb12 hb3 hpk hms
 go_wp2_with fail
 refine qf.mono ?_
 rintro e w4 ⟨rfl, hb4⟩
 have hb14 := hb13.trans (hb4.mono hb13.size)
 have ha := hca _ hb14
 clear qf hca
 rcases Arc.place_dtM ms xm with ⟨hp, hd⟩ | ⟨j, m, hp, hj, hd⟩
 ·have HD := hide' (hmd.trans hd)
  rw [hp]
  clear hmd hme hd hp hsm hb13 hb4
  go_wp2_with fail
  go_region
  all_goals
   go_wp2_with fail
   refine bodyPost_ret (by simp [results, Tryz.results62, go_sem]; rfl) rfl ?_
   rw [HD.out]
   exact ⟨⟨_, rfl, .inr (.wrap 0 _ (mk xa) _ (World.alloc_heap_new w4 _) .one)⟩, (hb14.alloc hb14.size _).trans (below_drewn 1)⟩
 ·have HD := hide' (hmd.trans hd)
  have hme4 := hme.below hb4
  have hjl : j < ms.length := (List.getElem?_eq_some_iff.1 hj).1
  rw [hp]
  rcases hme4 with ⟨_, rfl⟩ | ⟨g, o, cap, hv, hc, hrow, _⟩
  ·simp at hjl
  ·injection hv with hv1 hv2 hv3
   subst hv1
   have d1 := hrow.c1 j m hj
   have hj1 : (j : Int) < ms.length := by omega
   clear hmd hme hd hp hb13 hb4 hrow hj
   go_wp2_with fail
   refine bodyPost_ret (by simp [results, Tryz.results62, go_sem]; rfl) rfl ?_
   rw [HD.out]
   exact ⟨rfl, hb14⟩
theorem dated_any (B A : Nat) (Ea E : Addr) (T : Tr) (clk rm : Int) (s : ByteArray) (hs : s.size ≤ 400000) (S : Nat → Prop) (w : World) (h : IsFs w S A T clk rm) (hG : Gl B w Ea E) (hB : B ≤ w.heap.size) (hX : Arw w) (h12 : 9 < w.heap.size)
  (hD : ∀ e ∈ T, e.2.data.length ≤ 100000) :
  Calls Tryz.prog 62 #[.pointer (some ⟨A, 0, none⟩), .string s] w fun e w' => DtV w' Ea e (mbT T (tl s)) ∧ Below w.heap.size w w' := by
 unfold mbT
 by_cases hm : isM (tl s) = true
 ·rw [if_pos hm]
  exact dated_mem B A Ea E T clk rm s hs S w h hG hB hX h12 hD hm
 ·rw [if_neg hm]
  exact dated_plain A Ea s (by omega) (by simpa using hm) w hG.ca (by omega)
theorem changed_any (B A : Nat) (Ea E : Addr) (T : Tr) (clk rm : Int) (s : ByteArray) (hs : s.size ≤ 400000) (S : Nat → Prop) (w : World) (h : IsFs w S A T clk rm) (hG : Gl B w Ea E) (hB : B ≤ w.heap.size) (hX : Arw w) (h12 : 9 < w.heap.size)
  (hD : ∀ e ∈ T, e.2.data.length ≤ 100000) :
  Calls Tryz.prog 34 #[.pointer (some ⟨A, 0, none⟩), .string s] w fun e w' => ChV w' Ea e (tmP T (tl s)) ∧ Below w.heap.size w w' :=
 changed_of B A Ea E T clk rm s hs S w h hG hB _ (dated_any B A Ea E T clk rm s hs S w h hG hB hX h12 hD)
set_option maxRecDepth 100000 in
set_option maxHeartbeats 1000000 in
theorem Time_any (B A : Nat) (Ea E : Addr) (T : Tr) (clk rm : Int) (s : ByteArray) (hs : s.size ≤ 400000) (S : Nat → Prop) (w : World) (h : IsFs w S A T clk rm) (hG : Gl B w Ea E) (hB : B ≤ w.heap.size) (hX : Arw w) (h12 : 9 < w.heap.size)
  (hD : ∀ e ∈ T, e.2.data.length ≤ 100000) :
  Calls Tryz.prog 12 #[.pointer (some ⟨A, 0, none⟩), .string s] w fun e w' => e = .returned (.tuple #[.int .i64 ((tmP T (tl s)).getD 0), .bool (tmP T (tl s)).isSome]) ∧ Below w.heap.size w w' := by
 have q := changed_any B A Ea E T clk rm s hs S w h hG hB hX h12 hD
 have h0 : 0 < w.heap.size := by omega
 have hca := fun w1 (hb : Below w.heap.size w w1) => (hb.cell (p := ⟨0, 0, none⟩) h0).trans hG.ca
 cases ht : tmP T (tl s) with
 | some t =>
  rw [ht] at q
  have q2 := is_nil Ea
  clear h hG hX hD ht
  go_enter Tryz.func12, Tryz.ntmps12
  go_wp2_with fail
  refine q.mono ?_
  rintro e w1 ⟨rfl, hb⟩
  have ha := hca _ hb
  clear q hca
  go_wp2_with fail
  refine (q2 _).mono ?_
  rintro e w2 ⟨rfl, rfl⟩
  go_wp2_with fail
  refine bodyPost_ret (by simp [results, Tryz.results12, go_sem]; rfl) rfl ?_
  exact ⟨rfl, hb⟩
 | none =>
  rw [ht] at q
  clear h hG hX hD ht
  go_enter Tryz.func12, Tryz.ntmps12
  go_wp2_with fail
  refine q.mono ?_
  rintro e w1 ⟨⟨v, rfl, hv⟩, hb⟩
  have ha := hca _ hb
  have q2 := is_ab Ea _ w1 hv
  clear q hca hv
  go_wp2_with fail
  refine q2.mono ?_
  rintro e w2 ⟨rfl, rfl⟩
  go_wp2_with fail
  refine bodyPost_ret (by simp [results, Tryz.results12, go_sem]; rfl) rfl ?_
  exact ⟨rfl, hb⟩
end Go.Proofs.YtabmnkddmdffkaaGreatDoor.Sk
