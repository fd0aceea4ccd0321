import Derived.Test.YtabmnkddmdffkaaGreatDoorANewG
import Derived.Test.YtabmnkddmdffkaaGreatDoorAShelfS
import Derived.Test.YtabmnkddmdffkaaGreatDoorAPubG
import Derived.Test.YtabmnkddmdffkaaGreatDoorAPlantG
import Derived.Test.YtabmnkddmdffkaaGreatDoorAMemG
import Derived.Deep.AppendLies
namespace Go.Proofs
section
open Go.RowKit Go.Maps Go.Sort Go.Shelf
theorem Tryz.sorts36 (m : Nat) : AnyZ.SortsIn Tryz.prog Tryz.sorted36_ren Fence.wide m :=
 ⟨fun blk off cap ss W hH hblk hsz => callsIn_wide.2 (AnyM.slices_Sort_string Tryz.laysSlM6_f68 blk off cap ss W hH hblk hsz),
  fun p cap W => callsIn_wide.2 (AnyM.slices_Sort_string_none Tryz.laysSlM6_f68 p cap W)⟩
theorem Tryz.maps_Keys_37 (mb : Option Nat) (W : World) : CallsIn Fence.wide 5 Tryz.prog 42 #[.map mb] W fun e w' => e = .returned (.func (.func 70) #[] #[.pointer (some ⟨W.heap.size, 0, none⟩)]) ∧ w' = W.alloc (.cells #[.map mb] 92) :=
 AnyZ.keys_in Tryz.keys37 Fence.wide 5 trivial rfl mb W
set_option maxHeartbeats 1000000 in
theorem Tryz.slices_Sorted_keys_36_37 {H : Type} (b nn : Nat) (D0 : DataW H) (R : Value → Option (DataW H × List MemPlace)) (w : World) (hown : w.ownsMap Tryz.prog 9 R b nn D0) (hmax : Maps.size D0 ≤ maxLen) (hbytes : Maps.size D0 * 16 ≤ 140737488355328) :
  CallsIn Fence.wide 5 Tryz.prog 41 #[.func (.func 70) #[] #[.pointer (some ⟨w.heap.size, 0, none⟩)]] (w.alloc (.cells #[.map (some b)] 92)) fun e w' => ∃ (v : Value) (ss : List (List UInt8)), e = .returned v ∧ ss.Perm (strKeys D0) ∧
   w'.ownsRow (w.alloc (.cells #[.map (some b)] 92)).heap.size 9 1 v ss.length ((ss.mergeSort (fun x y => decide (x ≤ y))).map encStr) ∧ (v = .slice none 0 0 ↔ ss = []) ∧ Below (w.alloc (.cells #[.map (some b)] 92)).heap.size (w.alloc (.cells #[.map (some b)] 92)) w' := by
 have hbl := hown.lt
 have hseq : SeqGives Fence.wide 2 Tryz.prog 70 #[.pointer (some ⟨w.heap.size, 0, none⟩)] encStr (fun ss => ss.Perm (strKeys D0)) (Maps.size D0) (w.alloc (.cells #[.map (some b)] 92)) :=
  AnyZ.keys_gives (ρ := Tryz.keys37_ren) { Tryz.keys37 with } Fence.wide _ trivial rfl (by omega) w.heap.size b nn D0 _ (by simp) (by simp) (by
   obtain ⟨es, clock, hb, Ft, hs, hD⟩ := hown
   exact ⟨es, clock, (Below.heap_alloc _ _ b hbl).trans hb, Ft, hs, hD⟩)
 exact AnyZ.sorted_in Tryz.sorted36 Fence.wide 5 trivial trivial trivial trivial rfl (by omega) (Tryz.sorts36 _) (enters_of Tryz.func69 (by kernel_rfl) rfl) 70 #[.pointer (some ⟨w.heap.size, 0, none⟩)] trivial (enters_of Tryz.func70 (by kernel_rfl) rfl) _ _ hmax hbytes _ hseq
end
namespace YtabmnkddmdffkaaGreatDoor
open Go.RowKit Go.Maps
structure TrC (A : Nat) (clk rm : Int) (w : World) : Prop where
 c0 : w.cell? ⟨A, 2, none⟩ = some (.int .i64 clk)
 c1 : w.cell? ⟨A, 3, none⟩ = some (.int .i64 rm)
theorem cutN_nil (w : World) : Calls Tryz.prog 44 #[.slice none 0 0] w fun r w' => r = .returned (.slice none 0 0) ∧ w' = w := by
 go_enter Tryz.func44, Tryz.ntmps44
 go_wp2
 go_ret
 exact ⟨rfl, rfl⟩
theorem res15 (tmps : Array Value) (b : Nat) (x y z : Value) (W : World) (h4 : tmps.getD 2 undef = .pointer (some ⟨b, 0, none⟩)) (hb : W.heap[b]? = some (.cells #[x, y, z] 24 (0, 0))) : (results Tryz.f17 tmps).run Tryz.prog W = .ok (.agg #[x, y, z]) W := by
 simp only [Array.getD_eq_getD_getElem?] at h4
 have c0 : W.cell? ⟨b, 0, none⟩ = some x := by rw [Lib.cell_of_heap hb]; rfl
 have c1 : W.cell? ⟨b, 1, none⟩ = some y := by rw [Lib.cell_of_heap hb]; rfl
 have c2 : W.cell? ⟨b, 2, none⟩ = some z := by rw [Lib.cell_of_heap hb]; rfl
 simp [results, Tryz.results17, go_sem, h4, c0, c1, c2]
set_option maxRecDepth 100000 in
set_option maxHeartbeats 2000000 in
theorem Tree_none (A : Nat) (clk rm : Int) (S : Nat → Prop) (w : World) (h : IsFs w S A [] clk rm) :
  Calls Tryz.prog 17 #[.pointer (some ⟨A, 0, none⟩)] w fun r w' => r = .returned (.agg #[.slice none 0 0, .int .i64 clk, .int .i64 rm]) ∧ Below w.heap.size w w' := by
 obtain ⟨M, L, hF, hO, hL⟩ := h.mem
 obtain rfl : L = [] := List.map_eq_nil_iff.1 hL
 have hA := hF.fb.lt
 have b0 : Below w.heap.size w (w.alloc (.cells #[.slice none 0 0, .int .i64 0, .int .i64 0] 24)) := (Below.refl _ _).alloc (Nat.le_refl _) _
 have hF1 := hF.below b0
 have hTc : TrC A clk rm (w.alloc (.cells #[.slice none 0 0, .int .i64 0, .int .i64 0] 24)).drew := ⟨hF1.fb.c2, hF1.fb.c3⟩
 go_enter Tryz.func17, Tryz.ntmps17
 go_wp2_with fail
 refine (orEmpty_some A _).mono ?_
 rintro r w0 ⟨rfl, rfl⟩
 go_wp2
 refine wp_region_class (C := TrC A clk rm) (by kernel_rfl) ?_
 (refine wpAnyC_take (i := 0) (v := ?_) hTc rfl (by kernel_rfl) (by kernel_rfl) (by kernel_rfl) (fun _ _ _ h => h) (Or.inl ⟨by kernel_rfl, ?_⟩) ?_; rotate_left; (intro w hc; have k0 := hc.c0; have k1 := hc.c1; clear hc; go_simp; try with_reducible rfl))
 (refine wpAnyC_take (i := 1) (v := ?_) hTc rfl (by kernel_rfl) (by kernel_rfl) (by kernel_rfl) (fun _ _ _ h => h) (Or.inl ⟨by kernel_rfl, ?_⟩) ?_; rotate_left; (intro w hc; have k0 := hc.c0; have k1 := hc.c1; clear hc; go_simp; try with_reducible rfl))
 (refine wpAnyC_take (i := 2) (v := ?_) hTc rfl (by kernel_rfl) (by kernel_rfl) (by kernel_rfl) (fun _ _ _ h => h) (Or.inl ⟨by kernel_rfl, ?_⟩) ?_; rotate_left; (intro w hc; have k0 := hc.c0; have k1 := hc.c1; clear hc; go_simp; try with_reducible rfl))
 (refine wpAnyC_take (i := 3) (v := ?_) hTc rfl (by kernel_rfl) (by kernel_rfl) (by kernel_rfl) (fun _ _ _ h => h) (Or.inl ⟨by kernel_rfl, ?_⟩) ?_; rotate_left; (intro w hc; have k0 := hc.c0; have k1 := hc.c1; clear hc; go_simp; try with_reducible rfl))
 (refine wpAnyC_take (i := 4) (v := ?_) hTc rfl (by kernel_rfl) (by kernel_rfl) (by kernel_rfl) (fun _ _ _ h => h) (Or.inl ⟨by kernel_rfl, ?_⟩) ?_; rotate_left; (intro w hc; have k0 := hc.c0; have k1 := hc.c1; clear hc; go_simp; try with_reducible rfl))
 (refine wpAnyC_take (i := 5) (v := ?_) hTc rfl (by kernel_rfl) (by kernel_rfl) (by kernel_rfl) (fun _ _ _ h => h) (Or.inl ⟨by kernel_rfl, ?_⟩) ?_; rotate_left; (intro w hc; have k0 := hc.c0; have k1 := hc.c1; clear hc; go_simp; try with_reducible rfl))
 (refine wpAnyC_take (i := 6) (v := ?_) hTc rfl (by kernel_rfl) (by kernel_rfl) (by kernel_rfl) (fun _ _ _ h => h) (Or.inl ⟨by kernel_rfl, ?_⟩) ?_; rotate_left; (intro w hc; have k0 := hc.c0; have k1 := hc.c1; clear hc; go_simp; try with_reducible rfl))
 (refine wpAnyC_take (i := 7) (v := ?_) hTc rfl (by kernel_rfl) (by kernel_rfl) (by kernel_rfl) (fun _ _ _ h => h) (Or.inl ⟨by kernel_rfl, ?_⟩) ?_; rotate_left; (intro w hc; have k0 := hc.c0; have k1 := hc.c1; clear hc; go_simp; try with_reducible rfl))
 (refine wpAnyC_take (i := 8) (v := ?_) hTc rfl (by kernel_rfl) (by kernel_rfl) (by kernel_rfl) (fun _ _ _ h => h) (Or.inl ⟨by kernel_rfl, ?_⟩) ?_; rotate_left; (intro w hc; have k0 := hc.c0; have k1 := hc.c1; clear hc; go_simp; try with_reducible rfl))
 have b1 : ∀ o, Below w.heap.size w ((w.alloc (.cells #[.slice none 0 0, .int .i64 0, .int .i64 0] 24)).alloc o) := fun o => b0.alloc (by simp) o
 have hF2 := fun o => hF.below (b1 o)
 have hTc2 : TrC A clk rm ((w.alloc (.cells #[.slice none 0 0, .int .i64 0, .int .i64 0] 24)).alloc (.cells #[.slice none 0 0, .int .i64 0, .int .i64 0] 24)).drew := ⟨(hF2 _).fb.c2, (hF2 _).fb.c3⟩
 have hTc3 : TrC A clk rm ((w.alloc (.cells #[.slice none 0 0, .int .i64 0, .int .i64 0] 24)).alloc (.cells #[.slice none 0 0, .int .i64 clk, .int .i64 rm] 24)).drew := ⟨(hF2 _).fb.c2, (hF2 _).fb.c3⟩
 refine wpAnyC_one (i := 9) (by kernel_rfl) (wpOp_wanted rfl (by rfl) ?_)
 go_simp
 refine wpAnyC_one (i := 10) (by kernel_rfl) (wpOp_wanted rfl (by rfl) ?_)
 go_simp
 refine wpAnyC_done (by kernel_rfl) ?_ _
 obtain ⟨W, hW⟩ : ∃ W, W = ((w.alloc (.cells #[.slice none 0 0, .int .i64 0, .int .i64 0] 24)).alloc (.cells #[.slice none 0 0, .int .i64 clk, .int .i64 rm] 24)).drew := ⟨_, rfl⟩
 have hBW : Below w.heap.size w W := by rw [hW]; exact (b1 _).drew
 have hFW := hF.below hBW
 have hsW : w.heap.size + 1 < W.heap.size := by rw [hW]; show _ < ((w.alloc _).alloc _).heap.size; simp
 have hz1 : W.heap[w.heap.size]? = some (.cells #[.slice none 0 0, .int .i64 0, .int .i64 0] 24 (0, 0)) := by rw [hW]; exact (Below.heap_alloc _ _ _ (by simp)).trans (alloc_new _ _)
 have hz2 : W.heap[w.heap.size + 1]? = some (.cells #[.slice none 0 0, .int .i64 clk, .int .i64 rm] 24 (0, 0)) := by
  rw [hW]
  have q := alloc_new (w.alloc (.cells #[.slice none 0 0, .int .i64 0, .int .i64 0] 24)) (.cells #[.slice none 0 0, .int .i64 clk, .int .i64 rm] 24)
  rw [size_alloc'] at q
  exact q
 rw [← hW]
 clear hW hTc hTc2 hTc3 hF2 b1 b0 hF1
 have f0 := hFW.fb.c0
 go_wp2_with fail
 refine (callsIn_wide.1 (Tryz.maps_Keys_37 _ _)).mono ?_
 rintro r W1 ⟨rfl, hW1⟩
 have q := callsIn_wide.1 (Tryz.slices_Sorted_keys_36_37 (H := Unit) M 0 (datum (blks [])) ptrElem W hFW.mp (by simp [datum_size, blks]) (by simp [datum_size, blks]))
 subst hW1
 go_wp2_with fail
 refine q.mono ?_
 rintro r W2 ⟨v, ss, rfl, hp, hrow, hnil, hb2⟩
 obtain rfl : ss = [] := by rw [datum_keys] at hp; exact List.Perm.eq_nil (by simpa [blks] using hp)
 obtain rfl : v = .slice none 0 0 := hnil.2 rfl
 have hb2' : Below W.heap.size W W2 := ((Below.refl _ _).alloc (Nat.le_refl _) _).trans (hb2.mono (by simp))
 have hB2 := hBW.trans (hb2'.mono hBW.size)
 have y1 := (hb2'.block _ (by omega)).trans hz1
 have y2 := (hb2'.block _ hsW).trans hz2
 clear hrow hnil hp hb2 q hz1 hz2 f0 hFW hF
 go_wp2
 go_loopw [5, 6, 25] (fun _ _ i wr => i = .int .i64 0 ∧ wr = W2) (fun _ _ _ _ => 0)
 case atStart => exact ⟨rfl, rfl⟩
 case round =>
  obtain ⟨rfl, rfl⟩ := hrel
  have z0 : wr.cell? ⟨w.heap.size + 1, 0, none⟩ = some (.slice none 0 0) := by rw [Lib.cell_of_heap y2]; rfl
  have z1 : wr.cell? ⟨w.heap.size + 1, 1, none⟩ = some (.int .i64 clk) := by rw [Lib.cell_of_heap y2]; rfl
  have z2 : wr.cell? ⟨w.heap.size + 1, 2, none⟩ = some (.int .i64 rm) := by rw [Lib.cell_of_heap y2]; rfl
  have t0 : wr.cell? ⟨w.heap.size, 0, none⟩ = some (.slice none 0 0) := by rw [Lib.cell_of_heap y1]; rfl
  have t1 : wr.cell? ⟨w.heap.size, 1, none⟩ = some (.int .i64 0) := by rw [Lib.cell_of_heap y1]; rfl
  have t2 : wr.cell? ⟨w.heap.size, 2, none⟩ = some (.int .i64 0) := by rw [Lib.cell_of_heap y1]; rfl
  have g0 := Lib.frozen_of_heap y1 0
  have g1 := Lib.frozen_of_heap y1 1
  have g2 := Lib.frozen_of_heap y1 2
  have g3 := Lib.frozen_of_heap y2 0
  go_wp2_with fail
  refine (cutN_nil _).mono ?_
  rintro r w4 ⟨rfl, rfl⟩
  go_wp2
  have y3 := (Below.heap_setCell w4 ⟨w.heap.size + 1, 0, none⟩ (.slice none 0 0) w.heap.size (by simp)).trans y1
  refine bodyPost_ret (res15 _ _ _ _ _ _ rfl (set_row (set_row (set_row y3 0 _) 1 _) 2 _)) rfl ?_
  exact ⟨rfl, (((hB2.setCell (p := ⟨w.heap.size + 1, 0, none⟩) (Nat.le_succ _) _).setCell (p := ⟨w.heap.size, 0, none⟩) (Nat.le_refl _) _).setCell (p := ⟨w.heap.size, 1, none⟩) (Nat.le_refl _) _).setCell (p := ⟨w.heap.size, 2, none⟩) (Nat.le_refl _) _⟩
end YtabmnkddmdffkaaGreatDoor
end Go.Proofs
namespace Go.Proofs.YtabmnkddmdffkaaGreatDoor
open Go.RowKit Go.Maps
end Go.Proofs.YtabmnkddmdffkaaGreatDoor
namespace Go.Proofs.YtabmnkddmdffkaaGreatDoor
open Go
def par (p : Bs) : Bs := sl true (kpt p).dropLast
theorem ends_join (a x : Bs) (hx : 47 ∉ x) : ends (a ++ 47 :: x) = ends a ++ [a.length + 1 + x.length] := by
 have hl : (a ++ 47 :: x).length = a.length + (x.length + 1) := by simp
 unfold ends
 rw [hl, List.range_add, List.map_append, List.filter_append, List.map_map, List.range_succ, List.map_append, List.filter_append]
 have e1 : ((List.range a.length).map (· + 1)).filter (fun i => i == a.length + (x.length + 1) || (a ++ 47 :: x).getD i 0 == 47) = ((List.range a.length).map (· + 1)).filter (fun i => i == a.length || a.getD i 0 == 47) := by
  refine List.filter_congr fun i hi => ?_
  obtain ⟨j, hj, rfl⟩ := List.mem_map.1 hi
  have hj' := List.mem_range.1 hj
  by_cases h : j + 1 = a.length
  ·rw [h]; simp
  ·have h1 : j + 1 < a.length := by omega
   have h2 : ¬ j + 1 = a.length + (x.length + 1) := by omega
   have h3 : (a ++ 47 :: x).getD (j + 1) 0 = a.getD (j + 1) 0 := by simp only [List.getD_eq_getElem?_getD]; rw [List.getElem?_append_left h1]
   rw [h3, beq_eq_false_iff_ne.2 h, beq_eq_false_iff_ne.2 h2]
 have e2 : ((List.range x.length).map ((· + 1) ∘ (fun k => a.length + k))).filter (fun i => i == a.length + (x.length + 1) || (a ++ 47 :: x).getD i 0 == 47) = [] := by
  refine List.filter_eq_nil_iff.2 fun i hi => ?_
  obtain ⟨j, hj, rfl⟩ := List.mem_map.1 hi
  have hj' := List.mem_range.1 hj
  simp only [Function.comp]
  have h2 : ¬ a.length + j + 1 = a.length + (x.length + 1) := by omega
  have h3 : (a ++ 47 :: x).getD (a.length + j + 1) 0 = x[j] := by
   simp only [List.getD_eq_getElem?_getD]
   rw [List.getElem?_append_right (by omega)]
   have : a.length + j + 1 - a.length = j + 1 := by omega
   rw [this, List.getElem?_cons_succ, List.getElem?_eq_getElem hj']
   rfl
  rw [h3]
  have h4 : x[j] ≠ 47 := fun e => hx (e ▸ List.getElem_mem hj')
  simp [h2, h4]
 rw [e1, e2]
 have e3 : a.length + x.length + 1 = a.length + 1 + x.length := by omega
 have e4 : a.length + (x.length + 1) = a.length + 1 + x.length := by omega
 simp [e3, e4]
theorem ends_word (x : Bs) (hx : 47 ∉ x) (hne : x ≠ []) : ends x = [x.length] := by
 obtain ⟨n, hn⟩ : ∃ n, x.length = n + 1 := ⟨x.length - 1, by have := List.length_pos_iff.2 hne; omega⟩
 unfold ends
 rw [hn, List.range_succ, List.map_append, List.filter_append]
 have e2 : ((List.range n).map (· + 1)).filter (fun i => i == n + 1 || x.getD i 0 == 47) = [] := by
  refine List.filter_eq_nil_iff.2 fun i hi => ?_
  obtain ⟨j, hj, rfl⟩ := List.mem_map.1 hi
  have hj' := List.mem_range.1 hj
  have h2 : ¬ j = n := by omega
  have h3 : x.getD (j + 1) 0 = x[j + 1] := by simp only [List.getD_eq_getElem?_getD]; rw [List.getElem?_eq_getElem (by omega)]; rfl
  have h4 : x[j + 1] ≠ 47 := fun e => hx (e ▸ List.getElem_mem _)
  rw [h3]
  simp [h2, h4]
 rw [e2]
 simp
theorem par_cases (p : Bs) (hc : clean p = p) (hp : p ≠ []) : ∃ x : Bs, good x ∧ ((par p = [] ∧ p = x) ∨ (par p ≠ [] ∧ p = par p ++ 47 :: x)) ∧ clean (par p) = par p ∧ kpt (par p) = (kpt p).dropLast ∧ kpt p = kpt (par p) ++ [x] := by
 have hg := kpt_good p
 have hk : kpt p ≠ [] := by
  intro e
  apply hp
  rw [← hc]
  unfold clean
  rw [e]; rfl
 obtain ⟨K, x, hK⟩ : ∃ K x, kpt p = K ++ [x] := ⟨(kpt p).dropLast, (kpt p).getLast hk, (List.dropLast_concat_getLast hk).symm⟩
 have hgK : ∀ y ∈ K, good y := fun y hy => hg y (by rw [hK]; simp [hy])
 have hgx : good x := hg x (by rw [hK]; simp)
 have e1 : par p = sl true K := by unfold par; rw [hK, List.dropLast_concat]
 have e2 : kpt (par p) = K := by rw [e1, kpt_sl K hgK]
 have e3 : (kpt p).dropLast = K := by rw [hK, List.dropLast_concat]
 have ep : p = sl true (K ++ [x]) := by
  have h := hc
  unfold clean at h
  rw [hK] at h
  exact h.symm
 refine ⟨x, hgx, ?_, ?_, by rw [e2, e3], by rw [e2, hK]⟩
 ·by_cases hK0 : K = []
  ·subst hK0
   refine .inl ⟨e1, ?_⟩
   rw [ep]
   simp [sl]
  ·refine .inr ⟨?_, ?_⟩
   ·rw [e1]
    intro h
    have := kpt_sl K hgK
    rw [h] at this
    exact hK0 (this.symm.trans rfl)
   ·rw [e1, ← sl_snoc K x hK0]; exact ep
 ·unfold clean
  rw [e2, e1]
theorem par_len {p : Bs} (hc : clean p = p) (hp : p ≠ []) : (par p).length < p.length := by
 obtain ⟨x, hx, h, _⟩ := par_cases p hc hp
 rcases h with ⟨h1, h2⟩ | ⟨h1, h2⟩
 ·rw [h1]; exact List.length_pos_iff.2 hp
 ·have := congrArg List.length h2
  simp at this
  omega
section
variable {α : Type}
theorem lookE_take (isd : α → Bool) (T : List (Bs × α)) (p q : Bs) (l : List Nat) (h : ∀ i ∈ l, p.take i = q.take i) : lookE isd T p l = lookE isd T q l := by
 unfold lookE
 have key : ∀ (l : List Nat) (st : Lk α), (∀ i ∈ l, p.take i = q.take i) → l.foldl (stp isd T p) st = l.foldl (stp isd T q) st := by
  intro l
  induction l with
  | nil => intro st _; rfl
  | cons i r ih =>
   intro st h
   have e : stp isd T p st i = stp isd T q st i := by
    cases st <;> simp only [stp, h i List.mem_cons_self]
   rw [List.foldl_cons, List.foldl_cons, e]
   exact ih _ fun j hj => h j (List.mem_cons_of_mem _ hj)
 exact key l .rt h
theorem ends_le {p : Bs} {i : Nat} (h : i ∈ ends p) : i ≤ p.length := by
 unfold ends at h
 obtain ⟨j, hj, rfl⟩ := List.mem_map.1 (List.mem_filter.1 h).1
 have := List.mem_range.1 hj
 omega
theorem look_up (isd : α → Bool) (T : List (Bs × α)) (p : Bs) (hc : clean p = p) (hp : p ≠ []) : lookP isd T p = stp isd T p (lookP isd T (par p)) p.length := by
 obtain ⟨x, hx, h, _⟩ := par_cases p hc hp
 unfold lookP
 rcases h with ⟨h1, h2⟩ | ⟨h1, h2⟩
 ·have e : ends p = [] ++ [p.length] := by rw [h2]; exact ends_word x hx.2.1 hx.1
  rw [e, lookE_snoc, h1]
  rfl
 ·have hl : p.length = (par p).length + 1 + x.length := by have := congrArg List.length h2; simp at this; omega
  have e : ends p = ends (par p) ++ [p.length] := by
   conv => lhs; rw [h2]
   rw [ends_join _ _ hx.2.1, hl]
  rw [e, lookE_snoc]
  congr 1
  refine lookE_take isd T p (par p) _ fun i hi => ?_
  have hi' := ends_le hi
  conv => lhs; rw [h2]
  rw [List.take_append_of_le_length hi']
theorem take_len (p : Bs) : p.take p.length = p := List.take_length
end
structure Gd (T : List (Bs × Nd)) (clk : Int) : Prop where
 srt : Srt T
 val : ∀ e ∈ T, valid e.1 = true ∧ e.1 ≠ []
 tim : ∀ e ∈ T, 0 ≤ e.2.time ∧ e.2.time ≤ clk
 dat : ∀ e ∈ T, (e.2.dir = true → e.2.data = []) ∧ e.2.data.length ≤ 65536
 up : ∀ e ∈ T, par e.1 = [] ∨ ∃ n, fnd T (par e.1) = some n ∧ n.dir = true
theorem valid_clean {p : Bs} (h : valid p = true) : clean p = p := by
 unfold valid at h
 simp only [Bool.and_eq_true, decide_eq_true_eq] at h
 exact h.1.2
def isd (n : Nd) : Bool := n.dir
theorem Gd.nil (clk : Int) : Gd [] clk := ⟨List.Pairwise.nil, fun e he => (by cases he), fun e he => (by cases he), fun e he => (by cases he), fun e he => (by cases he)⟩
theorem Gd.look {T : List (Bs × Nd)} {clk : Int} (h : Gd T clk) : ∀ (k : Nat) (p : Bs), p.length ≤ k → ∀ n, fnd T p = some n → lookP isd T p = .is n
 | 0, p, hk, n, hf => by
  have hm := fnd_mem hf
  have hq : p ≠ [] := (h.val _ hm).2
  exact absurd (List.length_eq_zero_iff.1 (by omega)) hq
 | k + 1, p, hk, n, hf => by
  have hm := fnd_mem hf
  have hv : valid p = true := (h.val _ hm).1
  have hp : p ≠ [] := (h.val _ hm).2
  have hc := valid_clean hv
  rw [look_up isd T p hc hp]
  have hlt := par_len hc hp
  rcases h.up _ hm with hr | ⟨m, hf2, hd⟩
  ·simp only at hr
   rw [hr]
   show stp isd T p .rt p.length = _
   simp only [stp, take_len, hf, lkOf]
  ·simp only at hf2
   rw [Gd.look h k (par p) (by omega) m hf2]
   simp only [stp, isd, hd, if_true, take_len, hf, lkOf]
def Pl1 (T : List (Bs × Nd)) (p : Bs) : Prop := par p = [] ∨ ∃ n, fnd T (par p) = some n ∧ n.dir = true
theorem look_par {T : List (Bs × Nd)} : ∀ (k : Nat) (p : Bs), p.length ≤ k → clean p = p → ∀ x, lookP isd T p = x → (x = .rt → p = []) ∧ (∀ n, x = .is n → fnd T p = some n ∧ p ≠ [] ∧ Pl1 T p) ∧ (x = .non → fnd T p = none ∧ p ≠ [] ∧ Pl1 T p)
 | k, p, hk, hc, x, hx => by
  by_cases hp : p = []
  ·subst hp
   have : x = .rt := hx.symm
   subst this
   exact ⟨fun _ => rfl, fun n hn => (by cases hn), fun hn => by cases hn⟩
  ·have hlt := par_len hc hp
   cases k with
   | zero => omega
   | succ k =>
    obtain ⟨_, _, _, hcp, _⟩ := par_cases p hc hp
    obtain ⟨i1, i2, i3⟩ := look_par k (par p) (by omega) hcp _ rfl
    rw [look_up isd T p hc hp] at hx
    have fin : Pl1 T p → lkOf (fnd T p) = x → (x = .rt → p = []) ∧ (∀ n, x = .is n → fnd T p = some n ∧ p ≠ [] ∧ Pl1 T p) ∧ (x = .non → fnd T p = none ∧ p ≠ [] ∧ Pl1 T p) := by
     intro hpl he
     cases hf : fnd T p with
     | none => rw [hf] at he; subst he; exact ⟨fun e => (by cases e), fun n hn => (by cases hn), fun _ => ⟨rfl, hp, hpl⟩⟩
     | some y => rw [hf] at he; subst he; exact ⟨fun e => (by cases e), fun n hn => (by cases hn; exact ⟨rfl, hp, hpl⟩), fun e => by cases e⟩
    cases hl : lookP isd T (par p) with
    | bad e => rw [hl] at hx; simp only [stp] at hx; subst hx; exact ⟨fun e => (by cases e), fun n hn => (by cases hn), fun e => by cases e⟩
    | non => rw [hl] at hx; simp only [stp] at hx; subst hx; exact ⟨fun e => (by cases e), fun n hn => (by cases hn), fun e => by cases e⟩
    | rt =>
     rw [hl] at hx i1
     simp only [stp, take_len] at hx
     exact fin (.inl (i1 rfl)) hx
    | is y =>
     rw [hl] at hx i2
     obtain ⟨j1, j2, j3⟩ := i2 y rfl
     simp only [stp, take_len] at hx
     cases hd : isd y with
     | true => rw [hd, if_pos rfl] at hx; exact fin (.inr ⟨y, j1, hd⟩) hx
     | false => rw [hd] at hx; simp only [Bool.false_eq_true, if_false] at hx; subst hx; exact ⟨fun e => (by cases e), fun n hn => (by cases hn), fun e => by cases e⟩
theorem look_is' {T : List (Bs × Nd)} {p : Bs} {n : Nd} (hc : clean p = p) (h : lookP isd T p = .is n) : fnd T p = some n ∧ p ≠ [] ∧ Pl1 T p := (look_par p.length p (Nat.le_refl _) hc _ h).2.1 n rfl
theorem Gd.put {T : List (Bs × Nd)} {clk clk' : Int} (h : Gd T clk) {p : Bs} {n : Nd} (hv : valid p = true) (hp : p ≠ []) (hpl : Pl1 T p) (hk : clk ≤ clk') (ht : 0 ≤ n.time ∧ n.time ≤ clk') (hd : (n.dir = true → n.data = []) ∧ n.data.length ≤ 65536)
  (ho : ∀ m, fnd T p = some m → m.dir = true → n.dir = true) : Gd (YtabmnkddmdffkaaGreatDoor.put T p n) clk' := by
 have hne : par p ≠ p := fun e => by have := par_len (valid_clean hv) hp; rw [e] at this; omega
 have keep : ∀ q m, fnd T q = some m → m.dir = true → ∃ m', fnd (YtabmnkddmdffkaaGreatDoor.put T p n) q = some m' ∧ m'.dir = true := by
  intro q m hf hm
  by_cases e : p = q
  ·subst e; exact ⟨n, fnd_put_same _ _ _, ho m hf hm⟩
  ·exact ⟨m, (fnd_put_other _ _ e).trans hf, hm⟩
 refine ⟨h.srt.put p n, fun e he => ?_, fun e he => ?_, fun e he => ?_, fun e he => ?_⟩
 ·rcases mem_put.1 he with rfl | ⟨h1, _⟩
  ·exact ⟨hv, hp⟩
  ·exact h.val e h1
 ·rcases mem_put.1 he with rfl | ⟨h1, _⟩
  ·exact ht
  ·have := h.tim e h1; omega
 ·rcases mem_put.1 he with rfl | ⟨h1, _⟩
  ·exact hd
  ·exact h.dat e h1
 ·rcases mem_put.1 he with rfl | ⟨h1, _⟩
  ·rcases hpl with h2 | ⟨m, h2, h3⟩
   ·exact .inl h2
   ·exact .inr (keep _ m h2 h3)
  ·rcases h.up e h1 with h2 | ⟨m, h2, h3⟩
   ·exact .inl h2
   ·exact .inr (keep _ m h2 h3)
theorem ins_last {α : Type} (x : Bs × α) (T : List (Bs × α)) (h : ∀ e ∈ T, bytesBefore e.1 x.1 = true) : ins x T = T ++ [x] := by
 induction T with
 | nil => rfl
 | cons y r ih =>
  unfold ins
  rw [if_neg (by rw [before_asymm (h y List.mem_cons_self)]; simp), ih fun e he => h e (List.mem_cons_of_mem _ he)]
  rfl
theorem put_last {α : Type} (T : List (Bs × α)) (p : Bs) (n : α) (h : ∀ e ∈ T, bytesBefore e.1 p = true) : put T p n = T ++ [(p, n)] := by
 unfold put
 rw [del_none (fnd_none_of fun e he => before_ne (h e he)), ins_last _ _ h]
end Go.Proofs.YtabmnkddmdffkaaGreatDoor
namespace Go.Proofs.YtabmnkddmdffkaaGreatDoor
open Go
structure StepOk (T : Tr) (clk : Int) (o : Out) : Prop where
 err : o.1 ≠ 0 → o.2.1 = T ∧ o.2.2 = clk
 lo : clk ≤ o.2.2
 hi : o.2.2 ≤ clk + 1
 same : o.2.2 = clk → o.2.1 = T
 gd : Gd o.2.1 o.2.2
theorem lookN_valid {T : Tr} {p : Bs} {x : Lk Nd} (h : lookN T p = x) (hx : ∀ n, x ≠ .bad n) : valid p = true ∧ lookP isd T p = x := by
 unfold lookN at h
 cases hv : valid p with
 | false => rw [hv] at h; exact absurd h.symm (hx 16)
 | true => rw [hv, if_pos rfl] at h; exact ⟨rfl, h⟩
theorem lookN_is {T : Tr} {p : Bs} {n : Nd} (h : lookN T p = .is n) : valid p = true ∧ fnd T p = some n ∧ p ≠ [] ∧ Pl1 T p := by
 obtain ⟨hv, hl⟩ := lookN_valid h (fun n e => by cases e)
 exact ⟨hv, look_is' (valid_clean hv) hl⟩
def toE (n : Nv) : Bs × Nd := (n.path, n.nd)
theorem upDirN_of {T : Tr} {p : Bs} (h : upDirN (lookN T p) = true) : p = [] ∨ ∃ n, fnd T p = some n ∧ n.dir = true := by
 cases hl : lookN T p with
 | bad k => rw [hl] at h; cases h
 | non => rw [hl] at h; cases h
 | rt =>
  obtain ⟨hv, h1⟩ := lookN_valid hl (fun n e => by cases e)
  exact .inl ((look_par p.length p (Nat.le_refl _) (valid_clean hv) _ h1).1 rfl)
 | is n => rw [hl] at h; exact .inr ⟨n, (lookN_is hl).2.1, h⟩
theorem plant_gd (clk : Int) (ns : List Nv) (hl : ∀ n ∈ ns, long n = false) : ∀ k ah T, plantR clk (ns.take k) = some (ah, T) → T = (ns.take k).map toE ∧ Gd T clk ∧ (∀ e ∈ T, e.1 = ah ∨ bytesBefore e.1 ah = true) ∧ (ah = [] → T = [])
 | 0, ah, T, h => by
  rw [List.take_zero] at h ⊢
  simp only [plantR, List.foldl_nil, Option.some.injEq, Prod.mk.injEq] at h
  obtain ⟨rfl, rfl⟩ := h
  exact ⟨rfl, Gd.nil clk, fun e he => (by cases he), fun _ => rfl⟩
 | k + 1, ah, T, h => by
  by_cases hk : k < ns.length
  ·obtain ⟨n, hn⟩ : ∃ n, ns[k]? = some n := ⟨_, List.getElem?_eq_getElem hk⟩
   rw [plant_take hn] at h
   cases hp : plantR clk (ns.take k) with
   | none => rw [hp] at h; cases h
   | some st =>
    obtain ⟨ah0, T0⟩ := st
    obtain ⟨i1, i2, i3, i4⟩ := plant_gd clk ns hl k ah0 T0 hp
    rw [hp] at h
    simp only [stepP] at h
    split at h
    ·rename_i hc
     simp only [Option.some.injEq, Prod.mk.injEq] at h
     obtain ⟨rfl, rfl⟩ := h
     simp only [Bool.and_eq_true, fitN, fitB1, decide_eq_true_eq] at hc
     obtain ⟨hb, ⟨hv, ht0, ht1, hdd⟩, hu⟩ := hc
     have hne : n.path ≠ [] := by
      intro e
      rw [e] at hb
      cases ah0 <;> simp [bytesBefore] at hb
     have hall : ∀ e ∈ T0, bytesBefore e.1 n.path = true := fun e he => by
      rcases i3 e he with h3 | h3
      ·rw [h3]; exact hb
      ·exact before_trans _ _ _ h3 hb
     have hpl : Pl1 T0 n.path := upDirN_of hu
     have hlong : n.nd.data.length ≤ 65536 := by
      have := hl n (List.mem_of_getElem? hn)
      unfold long at this
      cases hdir : n.nd.dir with
      | true =>
       rw [hdir] at hdd
       simp at hdd
       rw [hdd]
       simp
      | false =>
       rw [hdir] at this
       simp at this
       omega
     have hdat : n.nd.dir = true → n.nd.data = [] := fun e => by
      rw [e] at hdd
      simp at hdd
      exact hdd
     refine ⟨?_, i2.put hv hne hpl (Int.le_refl _) ⟨ht0, ht1⟩ ⟨hdat, hlong⟩ fun m hm => ?_, fun e he => ?_, fun e => absurd e hne⟩
     ·rw [put_last T0 n.path n.nd hall, i1, List.take_add_one, hn, List.map_append]
      rfl
     ·exact absurd rfl (before_ne (hall _ (fnd_mem hm)))
     ·rcases mem_put.1 he with rfl | ⟨h1, _⟩
      ·exact .inl rfl
      ·exact .inr (hall e h1)
    ·cases h
  ·have e1 : ns.take (k + 1) = ns.take k := by rw [List.take_of_length_le (by omega), List.take_of_length_le (by omega)]
   rw [e1] at h ⊢
   exact plant_gd clk ns hl k ah T h
theorem lenR_oks {ns : List Nv} (h : lenR ns = .ok) : ns.length ≤ 1000 ∧ ∀ n ∈ ns, long n = false := by
 unfold lenR at h
 split at h
 ·cases h
 ·rename_i hc
  refine ⟨by omega, fun n hn => ?_⟩
  cases hln : long n with
  | false => rfl
  | true => exact absurd (.inr (List.any_eq_true.2 ⟨n, hn, hln⟩)) hc
theorem new_inr {ns : List Nv} {clk rm : Int} {T : Tr} (h : newR ns clk rm = .inr T) : T = ns.map toE ∧ Gd T clk ∧ okTree clk rm ∧ (weight T : Int) ≤ rm ∧ lenR ns = .ok := by
 unfold newR at h
 cases hl : lenR ns with
 | ok =>
  rw [hl] at h
  simp only at h
  split at h
  ·rename_i hok
   cases hp : plantR clk ns with
   | none => rw [hp] at h; cases h
   | some st =>
    obtain ⟨ah, T0⟩ := st
    rw [hp] at h
    simp only at h
    split at h
    ·cases h
    ·rename_i hw
     cases h
     have q := plant_gd clk ns (lenR_oks hl).2 ns.length ah T (by rw [List.take_length]; exact hp)
     rw [List.take_length] at q
     exact ⟨q.1, q.2.1, hok, by omega, rfl⟩
  ·cases h
 | no n => rw [hl] at h; cases h
 | nothing => rw [hl] at h; cases h
end Go.Proofs.YtabmnkddmdffkaaGreatDoor
namespace Go.Proofs.YtabmnkddmdffkaaGreatDoor
open Go
theorem before_lt : ∀ a b : Bs, bytesBefore a b = true ↔ a < b
 | [], [] => by simp [bytesBefore]
 | [], _ :: _ => by simp [bytesBefore]
 | _ :: _, [] => by simp [bytesBefore]
 | x :: r, y :: s => by
  rw [List.cons_lt_cons_iff]
  simp only [bytesBefore, Bool.or_eq_true, Bool.and_eq_true, decide_eq_true_eq, beq_iff_eq]
  rw [before_lt r s]
theorem le_before {a b : Bs} (h : a ≤ b) : a = b ∨ bytesBefore a b = true := by
 rcases before_total a b with h1 | h1 | h1
 ·exact .inr h1
 ·exact .inl h1
 ·exact absurd ((before_lt b a).1 h1) (List.not_lt.2 h)
theorem rising_ext : ∀ l m : List Bs, l.Pairwise (fun a b => bytesBefore a b = true) → m.Pairwise (fun a b => bytesBefore a b = true) → (∀ x, x ∈ l ↔ x ∈ m) → l = m
 | [], [], _, _, _ => rfl
 | [], y :: s, _, _, h => absurd ((h y).2 List.mem_cons_self) (by simp)
 | x :: r, [], _, _, h => absurd ((h x).1 List.mem_cons_self) (by simp)
 | x :: r, y :: s, hl, hm, h => by
  obtain ⟨l1, l2⟩ := List.pairwise_cons.1 hl
  obtain ⟨m1, m2⟩ := List.pairwise_cons.1 hm
  have e : x = y := by
   rcases List.mem_cons.1 ((h x).1 List.mem_cons_self) with e | e
   ·exact e
   ·rcases List.mem_cons.1 ((h y).2 List.mem_cons_self) with e2 | e2
    ·exact e2.symm
    ·have h1 := m1 x e
     have h2 := l1 y e2
     rw [before_asymm h1] at h2
     cases h2
  subst e
  rw [rising_ext r s l2 m2 fun z => ?_]
  constructor
  ·intro hz
   rcases List.mem_cons.1 ((h z).1 (List.mem_cons_of_mem _ hz)) with e | e
   ·exact absurd e.symm (before_ne (l1 z hz))
   ·exact e
  ·intro hz
   rcases List.mem_cons.1 ((h z).2 (List.mem_cons_of_mem _ hz)) with e | e
   ·exact absurd e.symm (before_ne (m1 z hz))
   ·exact e
theorem sorted_keys {K ss : List Bs} (hK : K.Pairwise (fun a b => bytesBefore a b = true)) (hp : ss.Perm K) : ss.mergeSort (fun x y => decide (x ≤ y)) = K := by
 have hs : (ss.mergeSort (fun x y => decide (x ≤ y))).Perm K := (List.mergeSort_perm ss _).trans hp
 have hle : (ss.mergeSort (fun x y => decide (x ≤ y))).Pairwise (fun a b => decide (a ≤ b) = true) :=
  List.pairwise_mergeSort (fun a b c h1 h2 => by simp only [decide_eq_true_eq] at *; exact List.le_trans h1 h2) (fun a b => by simp only [Bool.or_eq_true, decide_eq_true_eq]; exact List.le_total a b) ss
 have hnd : (ss.mergeSort (fun x y => decide (x ≤ y))).Nodup := hs.nodup_iff.2 (hK.imp fun h => before_ne h)
 refine rising_ext _ _ ?_ hK fun x => hs.mem_iff
 have := List.Pairwise.and hle hnd
 exact this.imp fun h => (le_before (of_decide_eq_true h.1)).resolve_left h.2
end Go.Proofs.YtabmnkddmdffkaaGreatDoor
namespace Go.Proofs.YtabmnkddmdffkaaGreatDoor
open Go
section
variable {P : Program} {md : Region.Mode} {ops : Array Oper} {Q : Exit → Act → World → Prop} {C : World → Prop} {X : List Nat}
def wpAnyX (P : Program) (md : Region.Mode) (ops : Array Oper) (C : World → Prop) (X : List Nat) (Q : Exit → Act → World → Prop) : Nat → Array Bool → Act → World → Prop
 | 0, listed, a, w => Region.ready md ops listed = [] ∧ Q .normal a w
 | fuel + 1, listed, a, w => (Region.ready md ops listed = [] → Q .normal a w) ∧ ∀ i ∈ Region.ready md ops listed, wpOp P ops Q i (fun a' w' => (X.contains i = false → C w') ∧ wpAnyX P md ops C X Q fuel (listed.setIfInBounds i true) a' w') a w
theorem wpAny_of_X : ∀ (fuel : Nat) (listed : Array Bool) (a : Act) (w : World), wpAnyX P md ops C X Q fuel listed a w → wpAny P md ops Q fuel listed a w
 | 0, _, _, _, h => h
 | fuel + 1, _, _, _, h => ⟨h.1, fun i hi => wpOp_mono (fun a' w' h' => wpAny_of_X fuel _ a' w' h'.2) (h.2 i hi)⟩
def depOf (md : Region.Mode) (ops : Array Oper) (i : Nat) : List Nat :=
 (List.range ops.size).foldl (fun D k => if k = i then k :: D else match ops[k]? with
  | some o => if o.after.any (fun e => Region.binds md e && D.contains e.on) then k :: D else D
  | none => D) []
def depsOk (md : Region.Mode) (ops : Array Oper) (listed : Array Bool) (i : Nat) (D X : List Nat) : Bool :=
 D.all (fun k => !listed.getD k true) && D.all (fun k => k == i || match ops[k]? with
  | some o => o.after.any (fun e => Region.binds md e && D.contains e.on)
  | none => true) && X.all (fun k => D.contains k && !(k == i))
theorem wpAnyX_first {i : Nat} {oi : Oper} {v : Value} (D : List Nat) (hi : ops[i]? = some oi) (hsel : ∀ (j : Nat) (o : Oper) cs b, ops[j]? = some o → o.op ≠ .select cs b) (hQ : ∀ c a w, Q (.panic c) (a.put oi.dst v) w → Q (.panic c) a w)
  (hcl : ∀ k ok, ops[k]? = some ok → D.contains k = true → k ≠ i → ∃ e ∈ ok.after, Region.binds md e = true ∧ D.contains e.on = true) (hX : ∀ k, X.contains k = true → D.contains k = true ∧ k ≠ i) :
  ∀ (fuel : Nat) (listed : Array Bool) (a : Act) (w : World), C w → (∀ k, D.contains k = true → listed.getD k true = false) →
   (∀ j oj, ops[j]? = some oj → j ≠ i → listed.getD j true = false → (∀ e ∈ oj.after, Region.binds md e = true → e.on ≠ i) → oi.apart ops oj = true) →
   i ∈ Region.ready md ops listed → YieldsC P ops C oi v a →
   wpAnyX P md ops C X Q fuel (listed.setIfInBounds i true) (a.put oi.dst v) w → wpAnyX P md ops C X Q (fuel + 1) listed a w := by
 intro fuel
 induction fuel with
 | zero =>
  intro listed a w hc _ _ hr hy H
  refine ⟨fun h => (by rw [h] at hr; cases hr), fun j hj => ?_⟩
  by_cases hji : j = i
  ·subst hji; exact hy.wpOp hi hc ⟨fun _ => hc, H⟩
  ·have := ready_mono hj hji
   rw [H.1] at this
   cases this
 | succ fuel ih =>
  intro listed a w hc hD hfree hr hy H
  refine ⟨fun h => (by rw [h] at hr; cases hr), fun j hj => ?_⟩
  by_cases hji : j = i
  ·subst hji; exact hy.wpOp hi hc ⟨fun _ => hc, H⟩
  ·have h1 := H.2 j (ready_mono hj hji)
   obtain ⟨hjun, oj, hoj, hall⟩ := mem_ready.1 hj
   have hun : ∀ k, listed.getD k true = false → listed.getD k false = true → False := fun k h0 h1 => by
    rcases Nat.lt_or_ge k listed.size with h' | h'
    ·simp [h'] at h0 h1; rw [h0] at h1; cases h1
    ·simp [Array.getElem?_eq_none h'] at h1
   have hnot : ∀ e ∈ oj.after, Region.binds md e = true → e.on ≠ i := fun e he hb heq => by
    have h1 := hall e he hb
    rw [heq] at h1
    exact hun i (mem_ready.1 hr).1 h1
   have hjD : D.contains j = false := by
    cases hd : D.contains j with
    | false => rfl
    | true =>
     obtain ⟨e, he, hb, hde⟩ := hcl j oj hoj hd hji
     exact (hun e.on (hD e.on hde) (hall e he hb)).elim
   have hjX : X.contains j = false := by
    cases hx : X.contains j with
    | false => rfl
    | true => rw [(hX j hx).1] at hjD; cases hjD
   have h2 := wpOp_putC hoj (hfree j oj hoj hji hjun hnot) (fun cs b => hsel i oi cs b hi) (fun cs b => hsel j oj cs b hoj) hQ hy h1
   have hfree' : ∀ k ok, ops[k]? = some ok → k ≠ i → (listed.setIfInBounds j true).getD k true = false → (∀ e ∈ ok.after, Region.binds md e = true → e.on ≠ i) → oi.apart ops ok = true := fun k ok hk hki hun hno => by
    refine hfree k ok hk hki ?_ hno
    by_cases hjk : j = k
    ·subst hjk; exact hjun
    ·rw [getD_set_ne true hjk] at hun; exact hun
   have hD' : ∀ k, D.contains k = true → (listed.setIfInBounds j true).getD k true = false := fun k hk => by
    have hjk : j ≠ k := fun e => by rw [← e, hjD] at hk; cases hk
    rw [getD_set_ne true hjk]
    exact hD k hk
   refine wpOp_mono (fun a' w' h3 => ⟨fun _ => h3.2.1 hjX, ih (listed.setIfInBounds j true) a' w' (h3.2.1 hjX) hD' hfree' (ready_mono hr (Ne.symm hji)) h3.1 ?_⟩) h2
   rw [Array.setIfInBounds_comm _ _ hji]
   exact h3.2.2
theorem wpAnyX_take {i : Nat} {oi : Oper} {v : Value} {fuel : Nat} {listed : Array Bool} {a : Act} {w : World} (hc : C w) (hi : ops[i]? = some oi) (hs : Region.noSelect ops = true) (hf : Region.free md ops listed i = true) (hr : (Region.ready md ops listed).contains i = true)
  (hd : depsOk md ops listed i (depOf md ops i) X = true)
  (hQ : ∀ c a w, Q (.panic c) (a.put oi.dst v) w → Q (.panic c) a w) (hy : YieldsC P ops C oi v a) (h : wpAnyX P md ops C X Q fuel (listed.setIfInBounds i true) (a.put oi.dst v) w) : wpAnyX P md ops C X Q (fuel + 1) listed a w := by
 unfold depsOk at hd
 simp only [Bool.and_eq_true] at hd
 obtain ⟨⟨h1, h2⟩, h3⟩ := hd
 refine wpAnyX_first (depOf md ops i) hi (Region.noSelect_spec hs) hQ (fun k ok hk hkD hki => ?_) (fun k hk => ?_) fuel listed a w hc (fun k hk => ?_) (Region.free_spec hi hf) (by simpa using hr) hy h
 ·have := List.all_eq_true.1 h2 k (List.contains_iff_mem.1 hkD)
  rw [hk] at this
  simp only [Bool.or_eq_true, beq_iff_eq, hki, false_or] at this
  obtain ⟨n, hn, he⟩ := Array.any_eq_true.1 this
  simp only [Bool.and_eq_true] at he
  exact ⟨_, Array.getElem_mem hn, he.1, he.2⟩
 ·have := List.all_eq_true.1 h3 k (List.contains_iff_mem.1 hk)
  simp only [Bool.and_eq_true, Bool.not_eq_true', beq_eq_false_iff_ne] at this
  exact this
 ·have := List.all_eq_true.1 h1 k (List.contains_iff_mem.1 hk)
  simpa using this
theorem wpAnyX_one {i : Nat} {fuel : Nat} {listed : Array Bool} {a : Act} {w : World} (hr : Region.ready md ops listed = [i]) (h : wpOp P ops Q i (fun a' w' => (X.contains i = false → C w') ∧ wpAnyX P md ops C X Q fuel (listed.setIfInBounds i true) a' w') a w) : wpAnyX P md ops C X Q (fuel + 1) listed a w :=
 ⟨fun h0 => absurd (hr ▸ h0) (by simp), fun j hj => by rw [hr, List.mem_singleton] at hj; subst hj; exact h⟩
theorem wpAnyX_done {listed : Array Bool} {a : Act} {w : World} (hr : Region.ready md ops listed = []) (h : Q .normal a w) : ∀ fuel, wpAnyX P md ops C X Q fuel listed a w
 | 0 => ⟨hr, h⟩
 | _ + 1 => ⟨fun _ => h, by rw [hr]; simp⟩
theorem wp_region_classX (X : List Nat) {id : Nat} {a : Act} {w : World} (hm : P.follows .mixedOrders = true) (h : wpAnyX P .any ops C X Q ops.size (Array.replicate ops.size false) a w.drew) : (Code.region id ops true).wp P Q a w :=
 wp_region_any hm (wpAny_of_X _ _ _ _ h)
end
end Go.Proofs.YtabmnkddmdffkaaGreatDoor
namespace Go.Proofs.YtabmnkddmdffkaaGreatDoor
open Go.RowKit Go.Maps
def cellsN (n : Nv) : List Value := [.string (mk n.path), .bool n.nd.dir, .int .i64 n.nd.time, n.dv]
def flat (ns : List Nv) : List Value := ns.flatMap cellsN
theorem flat_at : ∀ (ns : List Nv) (i r : Nat) (n : Nv), ns[i]? = some n → r < 4 → (flat ns)[i * 4 + r]? = (cellsN n)[r]?
 | [], i, r, n, h, _ => by simp at h
 | m :: s, 0, r, n, h, hr => by
  obtain rfl : m = n := by simpa using h
  have : flat (m :: s) = cellsN m ++ flat s := rfl
  rw [this, Nat.zero_mul, Nat.zero_add, List.getElem?_append_left (by show r < 4; exact hr)]
 | m :: s, i + 1, r, n, h, hr => by
  have : flat (m :: s) = cellsN m ++ flat s := rfl
  rw [this, List.getElem?_append_right (by show 4 ≤ _; omega)]
  have e : (i + 1) * 4 + r - (cellsN m).length = i * 4 + r := by show (i + 1) * 4 + r - 4 = _; omega
  rw [e]
  exact flat_at s i r n (by simpa using h) hr
structure NsAt (w : World) (b0 : Nat) (v : Value) (ns : List Nv) : Prop where
 row : (v = .slice none 0 0 ∧ ns = []) ∨ ∃ g cap cur, v = .slice (some ⟨g, 0, none⟩) ns.length cap ∧ b0 ≤ g ∧ w.heap[g]? = some (.cells cur 60 (0, 0)) ∧ ns.length ≤ cap ∧ cap * 4 ≤ cur.size ∧ cur.toList.take (ns.length * 4) = flat ns
 dat : ∀ n ∈ ns, Dat w n.dv n.nd.data
 hi : ∀ n ∈ ns, ∀ g, n.dv.ownBlock = some g → b0 ≤ g
theorem cell_row {w : World} {g : Nat} {cur : Array Value} {T : TypeId} {ns : List Nv} (hg : w.heap[g]? = some (.cells cur T (0, 0))) (ht : cur.toList.take (ns.length * 4) = flat ns) {i r : Nat} {n : Nv} {u : Value} (hn : ns[i]? = some n) (hr : r < 4) (hu : (cellsN n)[r]? = some u) :
  w.cell? ⟨g, i * 4 + r, none⟩ = some u := by
 rw [Lib.cell_of_heap hg]
 have hil : i < ns.length := (List.getElem?_eq_some_iff.1 hn).1
 have h1 := flat_at ns i r n hn hr
 rw [← ht, List.getElem?_take_of_lt (by omega), hu] at h1
 simpa using h1
theorem NsAt.nodes {w : World} {b0 : Nat} {v : Value} {ns : List Nv} (h : NsAt w b0 v ns) : Nodes w v ns := by
 rcases h.row with ⟨rfl, rfl⟩ | ⟨g, cap, cur, rfl, hb, hg, hc, hs, ht⟩
 ·exact .inl ⟨⟨_, _, rfl⟩, rfl⟩
 ·refine .inr ⟨g, 0, cap, rfl, hc, ⟨lt_of_block hg, fun i n hi => ?_, fun i n hi => ?_, fun i n hi => ?_, fun i n hi => ?_⟩, fun n hn => (h.dat n hn).rds⟩
  ·rw [Nat.zero_add]; exact cell_row hg ht (r := 0) hi (by omega) rfl
  ·rw [Nat.zero_add]; exact cell_row hg ht (r := 1) hi (by omega) rfl
  ·rw [Nat.zero_add]; exact cell_row hg ht (r := 2) hi (by omega) rfl
  ·rw [Nat.zero_add]; exact cell_row hg ht (r := 3) hi (by omega) rfl
theorem NsAt.below {w w' : World} {b0 : Nat} {v : Value} {ns : List Nv} (h : NsAt w b0 v ns) (hb : Below w.heap.size w w') : NsAt w' b0 v ns := by
 refine ⟨?_, fun n hn => (h.dat n hn).kept fun g hg => hb.block g ((h.dat n hn).lt g hg), h.hi⟩
 rcases h.row with h1 | ⟨g, cap, cur, rfl, h2, hg, r⟩
 ·exact .inl h1
 ·exact .inr ⟨g, cap, cur, rfl, h2, (hb.block g (lt_of_block hg)).trans hg, r⟩
theorem NsAt.mono {w : World} {b0 b1 : Nat} {v : Value} {ns : List Nv} (h : NsAt w b0 v ns) (hb : b1 ≤ b0) : NsAt w b1 v ns := by
 refine ⟨?_, h.dat, fun n hn g hg => Nat.le_trans hb (h.hi n hn g hg)⟩
 rcases h.row with h1 | ⟨g, cap, cur, rfl, h2, r⟩
 ·exact .inl h1
 ·exact .inr ⟨g, cap, cur, rfl, Nat.le_trans hb h2, r⟩
theorem NsAt.nil (w : World) (b0 : Nat) : NsAt w b0 (.slice none 0 0) [] := ⟨.inl ⟨rfl, rfl⟩, fun n hn => (by cases hn), fun n hn => (by cases hn)⟩
theorem cutN_some (g n cap : Nat) (h : n ≤ cap) (_hc : cap ≤ maxLen) (w : World) : Calls Tryz.prog 44 #[.slice (some ⟨g, 0, none⟩) n cap] w fun r w' => r = .returned (.slice (some ⟨g, 0, none⟩) n n) ∧ w' = w := by
 go_enter Tryz.func44, Tryz.ntmps44
 go_wp2
 go_ret
 exact ⟨rfl, rfl⟩
structure TgC (b tb : Nat) (d : Bool) (t : Int) (dv va : Value) (w : World) : Prop where
 c0 : w.cell? ⟨b, 0, none⟩ = some (.bool d)
 c1 : w.cell? ⟨b, 1, none⟩ = some (.int .i64 t)
 c2 : w.cell? ⟨b, 2, none⟩ = some dv
 cg : w.cell? ⟨tb, 0, none⟩ = some va
theorem TgC.below {b tb : Nat} {d : Bool} {t : Int} {dv va : Value} {w w' : World} (h : TgC b tb d t dv va w) (hb : Below w.heap.size w w') (h1 : b < w.heap.size) (h2 : tb < w.heap.size) : TgC b tb d t dv va w' :=
 ⟨(hb.cell (p := ⟨b, 0, none⟩) h1).trans h.c0, (hb.cell (p := ⟨b, 1, none⟩) h1).trans h.c1, (hb.cell (p := ⟨b, 2, none⟩) h1).trans h.c2, (hb.cell (p := ⟨tb, 0, none⟩) h2).trans h.cg⟩
theorem info55 : (Tryz.prog.info? 60).map (fun i : TypeInfo => (i.zero, i.size, i.bytes)) = some (some (.agg #[.string ⟨#[]⟩, .bool false, .int .i64 0, .slice none 0 0]), 4, 56) := by kernel_rfl
theorem dat_grown {w w' : World} {v va : Value} {bs : Bs} {base n : Nat} {xs : List Value} (hd : Dat w v bs) (ho : w.ownsRow base 60 4 va n xs) (hg : w.grownBy w' va.ownBlock) : Dat w' v bs := by
 refine hd.kept fun g hgb => hg.block g (hd.lt g hgb) fun e => ?_
 rcases ho.2 with ⟨rfl, _⟩ | ⟨g', cap, cur, rfl, _, hr, _⟩
 ·cases e
 ·obtain ⟨cur', hc⟩ := hd.elem g hgb
  have e1 : g = g' := Option.some.inj e
  rw [e1, hr] at hc
  simp at hc
theorem own_kept {w w' : World} {base n : Nat} {v : Value} {xs : List Value} (h : w.ownsRow base 60 4 v n xs) (hb : Below w.heap.size w w') : w'.ownsRow base 60 4 v n xs := by
 refine ⟨h.1, ?_⟩
 rcases h.2 with h1 | ⟨g, cap, cur, rfl, h2, hg, r⟩
 ·exact .inl h1
 ·exact .inr ⟨g, cap, cur, rfl, h2, (hb.block g (lt_of_block hg)).trans hg, r⟩
theorem news_cells (w : World) (n : Nv) : ∀ j u, (cellsN n)[j]? = some u → (w.alloc (.cells #[.string (mk n.path), .bool n.nd.dir, .int .i64 n.nd.time, n.dv] 60)).cell? ((⟨w.heap.size, 0, none⟩ : Addr).add j) = some u := by
 intro j u hj
 rw [add_zero, Lib.cell_of_heap (alloc_new _ _)]
 simpa [cellsN] using hj
theorem news_one (p : Bs) (a : Option Addr) (m c : Nat) {n : Nd} : ∀ u ∈ cellsN ⟨p, .slice a m c, n⟩, u.oneCell' = true := by
 intro u hu
 simp only [cellsN, List.mem_cons, List.not_mem_nil, or_false] at hu
 rcases hu with rfl | rfl | rfl | rfl <;> rfl
set_option maxRecDepth 100000 in
set_option maxHeartbeats 4000000 in
theorem Tree_some (A M : Nat) (L : Ents) (wt clk rm : Int) (w : World) (h : FsAt w A M L wt clk rm) (hne : 0 < L.length) (hll : L.length ≤ 1000) (hsz : ∀ e ∈ L, e.2.nd.data.length ≤ 1099511627776) :
  Calls Tryz.prog 17 #[.pointer (some ⟨A, 0, none⟩)] w fun r w' => (∃ v ns, r = .returned (.agg #[v, .int .i64 clk, .int .i64 rm]) ∧ NsAt w' w.heap.size v ns ∧ ns.map toE = nds L) ∧ Below w.heap.size w w' := by
 have hA := h.fb.lt
 have b0 : Below w.heap.size w (w.alloc (.cells #[.slice none 0 0, .int .i64 0, .int .i64 0] 24)) := (Below.refl _ _).alloc (Nat.le_refl _) _
 have hF1 := h.below b0
 have hTc : TrC A clk rm (w.alloc (.cells #[.slice none 0 0, .int .i64 0, .int .i64 0] 24)).drew := ⟨hF1.fb.c2, hF1.fb.c3⟩
 go_enter Tryz.func17, Tryz.ntmps17
 go_wp2_with fail
 refine (orEmpty_some A _).mono ?_
 rintro r w0 ⟨rfl, rfl⟩
 go_wp2
 refine wp_region_class (C := TrC A clk rm) (by kernel_rfl) ?_
 (refine wpAnyC_take (i := 0) (v := ?_) hTc rfl (by kernel_rfl) (by kernel_rfl) (by kernel_rfl) (fun _ _ _ h => h) (Or.inl ⟨by kernel_rfl, ?_⟩) ?_; rotate_left; (intro w hc; have k0 := hc.c0; have k1 := hc.c1; clear hc; go_simp; try with_reducible rfl))
 (refine wpAnyC_take (i := 1) (v := ?_) hTc rfl (by kernel_rfl) (by kernel_rfl) (by kernel_rfl) (fun _ _ _ h => h) (Or.inl ⟨by kernel_rfl, ?_⟩) ?_; rotate_left; (intro w hc; have k0 := hc.c0; have k1 := hc.c1; clear hc; go_simp; try with_reducible rfl))
 (refine wpAnyC_take (i := 2) (v := ?_) hTc rfl (by kernel_rfl) (by kernel_rfl) (by kernel_rfl) (fun _ _ _ h => h) (Or.inl ⟨by kernel_rfl, ?_⟩) ?_; rotate_left; (intro w hc; have k0 := hc.c0; have k1 := hc.c1; clear hc; go_simp; try with_reducible rfl))
 (refine wpAnyC_take (i := 3) (v := ?_) hTc rfl (by kernel_rfl) (by kernel_rfl) (by kernel_rfl) (fun _ _ _ h => h) (Or.inl ⟨by kernel_rfl, ?_⟩) ?_; rotate_left; (intro w hc; have k0 := hc.c0; have k1 := hc.c1; clear hc; go_simp; try with_reducible rfl))
 (refine wpAnyC_take (i := 4) (v := ?_) hTc rfl (by kernel_rfl) (by kernel_rfl) (by kernel_rfl) (fun _ _ _ h => h) (Or.inl ⟨by kernel_rfl, ?_⟩) ?_; rotate_left; (intro w hc; have k0 := hc.c0; have k1 := hc.c1; clear hc; go_simp; try with_reducible rfl))
 (refine wpAnyC_take (i := 5) (v := ?_) hTc rfl (by kernel_rfl) (by kernel_rfl) (by kernel_rfl) (fun _ _ _ h => h) (Or.inl ⟨by kernel_rfl, ?_⟩) ?_; rotate_left; (intro w hc; have k0 := hc.c0; have k1 := hc.c1; clear hc; go_simp; try with_reducible rfl))
 (refine wpAnyC_take (i := 6) (v := ?_) hTc rfl (by kernel_rfl) (by kernel_rfl) (by kernel_rfl) (fun _ _ _ h => h) (Or.inl ⟨by kernel_rfl, ?_⟩) ?_; rotate_left; (intro w hc; have k0 := hc.c0; have k1 := hc.c1; clear hc; go_simp; try with_reducible rfl))
 (refine wpAnyC_take (i := 7) (v := ?_) hTc rfl (by kernel_rfl) (by kernel_rfl) (by kernel_rfl) (fun _ _ _ h => h) (Or.inl ⟨by kernel_rfl, ?_⟩) ?_; rotate_left; (intro w hc; have k0 := hc.c0; have k1 := hc.c1; clear hc; go_simp; try with_reducible rfl))
 (refine wpAnyC_take (i := 8) (v := ?_) hTc rfl (by kernel_rfl) (by kernel_rfl) (by kernel_rfl) (fun _ _ _ h => h) (Or.inl ⟨by kernel_rfl, ?_⟩) ?_; rotate_left; (intro w hc; have k0 := hc.c0; have k1 := hc.c1; clear hc; go_simp; try with_reducible rfl))
 have b1 : ∀ o, Below w.heap.size w ((w.alloc (.cells #[.slice none 0 0, .int .i64 0, .int .i64 0] 24)).alloc o) := fun o => b0.alloc (by simp) o
 have hF2 := fun o => h.below (b1 o)
 have hTc2 : TrC A clk rm ((w.alloc (.cells #[.slice none 0 0, .int .i64 0, .int .i64 0] 24)).alloc (.cells #[.slice none 0 0, .int .i64 0, .int .i64 0] 24)).drew := ⟨(hF2 _).fb.c2, (hF2 _).fb.c3⟩
 have hTc3 : TrC A clk rm ((w.alloc (.cells #[.slice none 0 0, .int .i64 0, .int .i64 0] 24)).alloc (.cells #[.slice none 0 0, .int .i64 clk, .int .i64 rm] 24)).drew := ⟨(hF2 _).fb.c2, (hF2 _).fb.c3⟩
 refine wpAnyC_one (i := 9) (by kernel_rfl) (wpOp_wanted rfl (by rfl) ?_)
 go_simp
 refine wpAnyC_one (i := 10) (by kernel_rfl) (wpOp_wanted rfl (by rfl) ?_)
 go_simp
 refine wpAnyC_done (by kernel_rfl) ?_ _
 obtain ⟨W, hW⟩ : ∃ W, W = ((w.alloc (.cells #[.slice none 0 0, .int .i64 0, .int .i64 0] 24)).alloc (.cells #[.slice none 0 0, .int .i64 clk, .int .i64 rm] 24)).drew := ⟨_, rfl⟩
 have hBW : Below w.heap.size w W := by rw [hW]; exact (b1 _).drew
 have hFW := h.below hBW
 have hsW : w.heap.size + 1 < W.heap.size := by rw [hW]; show _ < ((w.alloc _).alloc _).heap.size; simp
 have hz1 : W.heap[w.heap.size]? = some (.cells #[.slice none 0 0, .int .i64 0, .int .i64 0] 24 (0, 0)) := by rw [hW]; exact (Below.heap_alloc _ _ _ (by simp)).trans (alloc_new _ _)
 have hz2 : W.heap[w.heap.size + 1]? = some (.cells #[.slice none 0 0, .int .i64 clk, .int .i64 rm] 24 (0, 0)) := by
  rw [hW]
  have q := alloc_new (w.alloc (.cells #[.slice none 0 0, .int .i64 0, .int .i64 0] 24)) (.cells #[.slice none 0 0, .int .i64 clk, .int .i64 rm] 24)
  rw [size_alloc'] at q
  exact q
 rw [← hW]
 clear hW hTc hTc2 hTc3 hF2 b1 b0 hF1
 have f0 := hFW.fb.c0
 have hlen0 : (blks L).length = L.length := by simp [blks]
 go_wp2_with fail
 refine (callsIn_wide.1 (Tryz.maps_Keys_37 _ _)).mono ?_
 rintro r W1 ⟨rfl, hW1⟩
 have q := callsIn_wide.1 (Tryz.slices_Sorted_keys_36_37 (H := Unit) M L.length (datum (blks L)) ptrElem W hFW.mp (by rw [datum_size, hlen0]; unfold maxLen; omega) (by rw [datum_size, hlen0]; omega))
 subst hW1
 go_wp2_with fail
 refine q.mono ?_
 rintro r W2 ⟨v, ss, rfl, hp, hrow, hnil, hb2⟩
 have hK : (L.map (·.1)).Pairwise (fun a b => bytesBefore a b = true) := List.pairwise_map.2 h.srt
 have hkeys : (blks L).map (·.1) = L.map (·.1) := by simp [blks]
 rw [datum_keys, hkeys] at hp
 have hsl : ss.length = L.length := by rw [hp.length_eq, List.length_map]
 rw [sorted_keys hK hp, hsl] at hrow
 have hb2' : Below W.heap.size W W2 := ((Below.refl _ _).alloc (Nat.le_refl _) _).trans (hb2.mono (by simp))
 have hB2 := hBW.trans (hb2'.mono hBW.size)
 have y1 := (hb2'.block _ (by omega)).trans hz1
 have y2 := (hb2'.block _ hsW).trans hz2
 obtain ⟨gk, ck, rfl, hgk, hgk2⟩ := hrow.form hne
 have hkc : ∀ (j : Nat) (e : Bs × En), L[j]? = some e → W2.cell? ⟨gk, j, none⟩ = some (.string (mk e.1)) := fun j e hj => by
  have := hrow.cells (g := gk) rfl j (encStr e.1) (by rw [List.getElem?_map, List.getElem?_map, hj]; rfl)
  rw [add_zero] at this
  exact this
 have hWs := hb2'.size
 have hgk' : W.heap.size + 1 ≤ gk := by simpa using hgk
 have hgkW : w.heap.size + 1 < gk := by omega
 have hwl : w.heap.size + 1 < W2.heap.size := by omega
 clear hrow hnil hp hb2 q hz1 hz2 f0 hFW hgk hkeys
 go_wp2
 go_loopw [5, 6, 25] (fun _ _ i wr => ∃ (k : Nat) (va : Value) (ns : List Nv), k ≤ L.length ∧ i = .int .i64 k ∧ wr.heap[w.heap.size + 1]? = some (.cells #[va, .int .i64 clk, .int .i64 rm] 24 (0, 0)) ∧ wr.ownsRow W2.heap.size 60 4 va ns.length (flat ns) ∧
   (∀ n ∈ ns, Dat wr n.dv n.nd.data ∧ ∀ g, n.dv.ownBlock = some g → W2.heap.size ≤ g) ∧ ns.map toE = (nds L).take k ∧ Turn (fun i => i = w.heap.size + 1) W2 wr) (fun _ _ i _ => L.length - (intOf i).toNat)
 case atStart => exact ⟨0, .slice none 0 0, [], Nat.zero_le _, rfl, y2, World.ownsRow_nil _ _ _ _, fun n hn => (by cases hn), rfl, Turn.refl _ _⟩
 case round =>
  obtain ⟨k, va, ns, hk, rfl, hT, hown, hdat, hns, htn⟩ := hrel
  have hBr : Below w.heap.size w wr := hB2.trans (htn.below hB2.size (fun i hi => by omega))
  have hFr := h.below hBr
  have t0 : wr.cell? ⟨w.heap.size + 1, 0, none⟩ = some va := by rw [Lib.cell_of_heap hT]; rfl
  have t1 : wr.cell? ⟨w.heap.size + 1, 1, none⟩ = some (.int .i64 clk) := by rw [Lib.cell_of_heap hT]; rfl
  have t2 : wr.cell? ⟨w.heap.size + 1, 2, none⟩ = some (.int .i64 rm) := by rw [Lib.cell_of_heap hT]; rfl
  have tz := Lib.frozen_of_heap hT 0
  have hsz2 := htn.size
  by_cases hkl : k < L.length
  ·have k1 : (k : Int) < L.length := by omega
   obtain ⟨e, he⟩ : ∃ e, L[k]? = some e := ⟨_, List.getElem?_eq_getElem hkl⟩
   have hmem : e ∈ L := List.mem_of_getElem? he
   have hfe : fnd L e.1 = some e.2 := h.srt.fnd hmem
   have hkr : wr.cell? ⟨gk, k, none⟩ = some (.string (mk e.1)) := (World.cell?_of_block (a := ⟨gk, k, none⟩) (htn.block gk hgk2 (by omega))).trans (hkc k e he)
   have hel : e.1.length ≤ 1000 := h.keys e hmem
   have hlk := hFr.mp.look e.1 (by unfold maxLen; omega)
   rw [hfe] at hlk
   simp only [Option.map_some, ptrOf] at hlk
   have f0 := hFr.fb.c0
   have hnode := h.nodes e hmem
   have hnr : NodeAt wr e.2 := (hBr.block _ hnode.lt).trans hnode
   have hrd : Rds wr e.2.dv e.2.nd.data := (h.rds e hmem).below hBr
   have hTg : TgC e.2.blk (w.heap.size + 1) e.2.nd.dir e.2.nd.time e.2.dv va wr := ⟨hnr.c0, hnr.c1, hnr.c2, t0⟩
   have hTgd : TgC e.2.blk (w.heap.size + 1) e.2.nd.dir e.2.nd.time e.2.dv va wr.drew := ⟨hTg.c0, hTg.c1, hTg.c2, hTg.cg⟩
   have hnb : e.2.blk < wr.heap.size := hnr.lt
   go_wp2
   refine wp_region_classX [21] (C := TgC e.2.blk (w.heap.size + 1) e.2.nd.dir e.2.nd.time e.2.dv va) (by kernel_rfl) ?_
   (refine wpAnyX_take (i := 0) (v := ?_) hTgd rfl (by kernel_rfl) (by kernel_rfl) (by kernel_rfl) (by kernel_rfl) (fun _ _ _ h => h) (Or.inl ⟨by kernel_rfl, ?_⟩) ?_; rotate_left; (intro w hc; have k0 := hc.c0; have k1 := hc.c1; have k2 := hc.c2; have kg := hc.cg; clear hc; go_simp; try with_reducible rfl))
   (refine wpAnyX_take (i := 1) (v := ?_) hTgd rfl (by kernel_rfl) (by kernel_rfl) (by kernel_rfl) (by kernel_rfl) (fun _ _ _ h => h) (Or.inl ⟨by kernel_rfl, ?_⟩) ?_; rotate_left; (intro w hc; have k0 := hc.c0; have k1 := hc.c1; have k2 := hc.c2; have kg := hc.cg; clear hc; go_simp; try with_reducible rfl))
   (refine wpAnyX_take (i := 2) (v := ?_) hTgd rfl (by kernel_rfl) (by kernel_rfl) (by kernel_rfl) (by kernel_rfl) (fun _ _ _ h => h) (Or.inl ⟨by kernel_rfl, ?_⟩) ?_; rotate_left; (intro w hc; have k0 := hc.c0; have k1 := hc.c1; have k2 := hc.c2; have kg := hc.cg; clear hc; go_simp; try with_reducible rfl))
   (refine wpAnyX_take (i := 4) (v := ?_) hTgd rfl (by kernel_rfl) (by kernel_rfl) (by kernel_rfl) (by kernel_rfl) (fun _ _ _ h => h) (Or.inl ⟨by kernel_rfl, ?_⟩) ?_; rotate_left; (intro w hc; have k0 := hc.c0; have k1 := hc.c1; have k2 := hc.c2; have kg := hc.cg; clear hc; go_simp; try with_reducible rfl))
   (refine wpAnyX_take (i := 5) (v := ?_) hTgd rfl (by kernel_rfl) (by kernel_rfl) (by kernel_rfl) (by kernel_rfl) (fun _ _ _ h => h) (Or.inl ⟨by kernel_rfl, ?_⟩) ?_; rotate_left; (intro w hc; have k0 := hc.c0; have k1 := hc.c1; have k2 := hc.c2; have kg := hc.cg; clear hc; go_simp; try with_reducible rfl))
   (refine wpAnyX_take (i := 6) (v := ?_) hTgd rfl (by kernel_rfl) (by kernel_rfl) (by kernel_rfl) (by kernel_rfl) (fun _ _ _ h => h) (Or.inl ⟨by kernel_rfl, ?_⟩) ?_; rotate_left; (intro w hc; have k0 := hc.c0; have k1 := hc.c1; have k2 := hc.c2; have kg := hc.cg; clear hc; go_simp; try with_reducible rfl))
   (refine wpAnyX_take (i := 7) (v := ?_) hTgd rfl (by kernel_rfl) (by kernel_rfl) (by kernel_rfl) (by kernel_rfl) (fun _ _ _ h => h) (Or.inl ⟨by kernel_rfl, ?_⟩) ?_; rotate_left; (intro w hc; have k0 := hc.c0; have k1 := hc.c1; have k2 := hc.c2; have kg := hc.cg; clear hc; go_simp; try with_reducible rfl))
   (refine wpAnyX_take (i := 8) (v := ?_) hTgd rfl (by kernel_rfl) (by kernel_rfl) (by kernel_rfl) (by kernel_rfl) (fun _ _ _ h => h) (Or.inl ⟨by kernel_rfl, ?_⟩) ?_; rotate_left; (intro w hc; have k0 := hc.c0; have k1 := hc.c1; have k2 := hc.c2; have kg := hc.cg; clear hc; go_simp; try with_reducible rfl))
   (refine wpAnyX_take (i := 9) (v := ?_) hTgd rfl (by kernel_rfl) (by kernel_rfl) (by kernel_rfl) (by kernel_rfl) (fun _ _ _ h => h) (Or.inl ⟨by kernel_rfl, ?_⟩) ?_; rotate_left; (intro w hc; have k0 := hc.c0; have k1 := hc.c1; have k2 := hc.c2; have kg := hc.cg; clear hc; go_simp; try with_reducible rfl))
   (refine wpAnyX_take (i := 10) (v := ?_) hTgd rfl (by kernel_rfl) (by kernel_rfl) (by kernel_rfl) (by kernel_rfl) (fun _ _ _ h => h) (Or.inl ⟨by kernel_rfl, ?_⟩) ?_; rotate_left; (intro w hc; have k0 := hc.c0; have k1 := hc.c1; have k2 := hc.c2; have kg := hc.cg; clear hc; go_simp; try with_reducible rfl))
   (refine wpAnyX_take (i := 11) (v := ?_) hTgd rfl (by kernel_rfl) (by kernel_rfl) (by kernel_rfl) (by kernel_rfl) (fun _ _ _ h => h) (Or.inl ⟨by kernel_rfl, ?_⟩) ?_; rotate_left; (intro w hc; have k0 := hc.c0; have k1 := hc.c1; have k2 := hc.c2; have kg := hc.cg; clear hc; go_simp; try with_reducible rfl))
   (refine wpAnyX_take (i := 12) (v := ?_) hTgd rfl (by kernel_rfl) (by kernel_rfl) (by kernel_rfl) (by kernel_rfl) (fun _ _ _ h => h) (Or.inl ⟨by kernel_rfl, ?_⟩) ?_; rotate_left; (intro w hc; have k0 := hc.c0; have k1 := hc.c1; have k2 := hc.c2; have kg := hc.cg; clear hc; go_simp; try with_reducible rfl))
   (refine wpAnyX_take (i := 13) (v := ?_) hTgd rfl (by kernel_rfl) (by kernel_rfl) (by kernel_rfl) (by kernel_rfl) (fun _ _ _ h => h) (Or.inl ⟨by kernel_rfl, ?_⟩) ?_; rotate_left; (intro w hc; have k0 := hc.c0; have k1 := hc.c1; have k2 := hc.c2; have kg := hc.cg; clear hc; go_simp; try with_reducible rfl))
   (refine wpAnyX_take (i := 14) (v := ?_) hTgd rfl (by kernel_rfl) (by kernel_rfl) (by kernel_rfl) (by kernel_rfl) (fun _ _ _ h => h) (Or.inl ⟨by kernel_rfl, ?_⟩) ?_; rotate_left; (intro w hc; have k0 := hc.c0; have k1 := hc.c1; have k2 := hc.c2; have kg := hc.cg; clear hc; go_simp; try with_reducible rfl))
   (refine wpAnyX_take (i := 15) (v := ?_) hTgd rfl (by kernel_rfl) (by kernel_rfl) (by kernel_rfl) (by kernel_rfl) (fun _ _ _ h => h) (Or.inl ⟨by kernel_rfl, ?_⟩) ?_; rotate_left; (intro w hc; have k0 := hc.c0; have k1 := hc.c1; have k2 := hc.c2; have kg := hc.cg; clear hc; go_simp; try with_reducible rfl))
   refine wpAnyX_one (i := 3) (by kernel_rfl) (wpOp_wanted rfl (by rfl) ?_)
   go_simp
   refine (clone_any (mk e.1) _ (by rw [mk_size]; omega)).mono ?_
   rintro r w4 ⟨rfl, hb4⟩
   dsimp only
   have hb4' : Below wr.heap.size wr w4 := ⟨hb4.os, hb4.tape, hb4.output, hb4.size, hb4.block⟩
   have hTg4 := hTg.below hb4' hnb (by omega)
   have hrd4 := hrd.below hb4'
   refine ⟨hTg4, ?_⟩
   refine wpAnyX_one (i := 16) (by kernel_rfl) (wpOp_wanted rfl (by rfl) ?_)
   go_simp
   refine (own_any e.2.dv e.2.nd.data _ hrd4 (hsz _ hmem)).mono ?_
   rintro r w5 ⟨v', rfl, hd5, hg5, hb5⟩
   obtain ⟨a5, cap5, hv5⟩ := hd5.len
   subst hv5
   dsimp only
   have hs4 := hb4'.size
   have hs5 := hb5.size
   have hTg5 := hTg4.below hb5 (by omega) (by omega)
   refine ⟨hTg5, ?_⟩
   refine wpAnyX_one (i := 17) (by kernel_rfl) (wpOp_wanted rfl (by rfl) ?_)
   go_simp
   refine wpAnyX_one (i := 18) (by kernel_rfl) (wpOp_wanted rfl (by rfl) ?_)
   have hb6 : Below w5.heap.size w5 (w5.alloc (.cells #[.string (mk e.1), .bool e.2.nd.dir, .int .i64 e.2.nd.time, .slice a5 e.2.nd.data.length cap5] 60)) := (Below.refl _ _).alloc (Nat.le_refl _) _
   have hTg6 := hTg5.below hb6 (by omega) (by omega)
   go_simp
   obtain ⟨inf, hi, hz0, hz1, hz2⟩ := info_parts info55
   have hB5 : Below wr.heap.size wr w5 := hb4'.trans (hb5.mono hs4)
   have hB6 : Below wr.heap.size wr (w5.alloc (.cells #[.string (mk e.1), .bool e.2.nd.dir, .int .i64 e.2.nd.time, .slice a5 e.2.nd.data.length cap5] 60)) := hB5.trans (hb6.mono hB5.size)
   have hown6 : (w5.alloc (.cells #[.string (mk e.1), .bool e.2.nd.dir, .int .i64 e.2.nd.time, .slice a5 e.2.nd.data.length cap5] 60)).ownsRow W2.heap.size 60 4 va ns.length (flat ns) := own_kept hown hB6
   have hnl : ns.length = k := by have := congrArg List.length hns; rw [List.length_map, List.length_take, nds_length] at this; omega
   refine wpAnyX_one (i := 19) (by kernel_rfl) (wpOp_wanted rfl (by rfl) ?_)
   refine wp_append_lies _ _ _ 22 rfl W2.heap.size 60 inf _ 4 56 Tryz.underlying22 hi hz0 hz1 hz2 rfl (by decide) va ns.length (flat ns) rfl hown6 ⟨w5.heap.size, 0, none⟩ 1 1 (cellsN ⟨e.1, .slice a5 e.2.nd.data.length cap5, e.2.nd⟩) rfl rfl (news_cells w5 _) (news_one _ _ _ _) (by decide) (by unfold maxLen; omega) (by omega) (by simp; omega) _ rfl ?_
   intro g9 c9 w9 hown9 hgr9 hat9 hlt9
   have hva : ∀ b, b < W2.heap.size → some b ≠ va.ownBlock := by
    intro b hb e1
    rcases hown.2 with ⟨rfl, _⟩ | ⟨g, cap, cur, rfl, hg, _⟩
    ·cases e1
    ·have := Option.some.inj e1
     simp only at this
     omega
   have hs6 : wr.heap.size ≤ (w5.alloc (.cells #[.string (mk e.1), .bool e.2.nd.dir, .int .i64 e.2.nd.time, .slice a5 e.2.nd.data.length cap5] 60)).heap.size := hB6.size
   have hk9 : ∀ b, b < W2.heap.size → w9.heap[b]? = wr.heap[b]? := fun b hb => (hgr9.block b (by omega) (hva b hb)).trans (hB6.block b (by omega))
   have hnW : e.2.blk < W2.heap.size := Nat.lt_of_lt_of_le hnode.lt hB2.size
   have hTg9 : TgC e.2.blk (w.heap.size + 1) e.2.nd.dir e.2.nd.time e.2.dv va w9 :=
    ⟨(World.cell?_of_block (a := ⟨e.2.blk, 0, none⟩) (hk9 _ hnW)).trans hTg.c0, (World.cell?_of_block (a := ⟨e.2.blk, 1, none⟩) (hk9 _ hnW)).trans hTg.c1, (World.cell?_of_block (a := ⟨e.2.blk, 2, none⟩) (hk9 _ hnW)).trans hTg.c2, (World.cell?_of_block (a := ⟨w.heap.size + 1, 0, none⟩) (hk9 _ hwl)).trans hTg.cg⟩
   have hT9 := (hk9 _ hwl).trans hT
   have tz9 := Lib.frozen_of_heap hT9 0
   have tg9 : w9.cell? ⟨w.heap.size + 1, 0, none⟩ = some va := hTg9.cg
   refine ⟨fun _ => hTg9, ?_⟩
   refine wpAnyX_one (i := 20) (by kernel_rfl) (wpOp_wanted rfl (by rfl) ?_)
   go_simp
   refine wpAnyX_one (i := 21) (by kernel_rfl) (wpOp_wanted rfl (by rfl) ?_)
   go_simp
   refine wpAnyX_done (by kernel_rfl) ?_ _
   go_wp2
   have hset : ∀ b, b ≠ w.heap.size + 1 → (w9.setCell ⟨w.heap.size + 1, 0, none⟩ (.slice (some ⟨g9, 0, none⟩) (k + 1) c9)).heap[b]? = w9.heap[b]? := fun b hb => Below.heap_setCell w9 ⟨w.heap.size + 1, 0, none⟩ _ b (by simpa using hb)
   have hdk : ∀ v bs, Dat (w5.alloc (.cells #[.string (mk e.1), .bool e.2.nd.dir, .int .i64 e.2.nd.time, .slice a5 e.2.nd.data.length cap5] 60)) v bs → (∀ g, v.ownBlock = some g → W2.heap.size ≤ g) → Dat (w9.setCell ⟨w.heap.size + 1, 0, none⟩ (.slice (some ⟨g9, 0, none⟩) (k + 1) c9)) v bs := fun v bs hd hg => (dat_grown hd hown6 hgr9).kept fun g hgb => hset g (by have := hg g hgb; omega)
   have hnew : ∀ g, (Value.slice a5 e.2.nd.data.length cap5).ownBlock = some g → W2.heap.size ≤ g := fun g hg => by have := hg5 g hg; omega
   refine ⟨⟨k + 1, .slice (some ⟨g9, 0, none⟩) (k + 1) c9, ns ++ [⟨e.1, .slice a5 e.2.nd.data.length cap5, e.2.nd⟩], by omega, by simp, set_row hT9 0 _, ?_, fun n hn => ?_, ?_, ?_⟩, by simp [intOf]; omega⟩
   ·have ho := hown9
    rw [hnl] at ho
    have e1 : (ns ++ [(⟨e.1, .slice a5 e.2.nd.data.length cap5, e.2.nd⟩ : Nv)]).length = k + 1 := by rw [List.length_append, hnl]; rfl
    have e2 : flat (ns ++ [(⟨e.1, .slice a5 e.2.nd.data.length cap5, e.2.nd⟩ : Nv)]) = flat ns ++ cellsN ⟨e.1, .slice a5 e.2.nd.data.length cap5, e.2.nd⟩ := by unfold flat; rw [List.flatMap_append]; simp
    rw [e1, e2]
    refine ⟨ho.1, ?_⟩
    rcases ho.2 with ⟨e3, _⟩ | ⟨g, cap, cur, e3, hbg, hg, r⟩
    ·cases e3
    ·cases e3
     exact .inr ⟨g9, c9, cur, rfl, hbg, (hset g9 (by omega)).trans hg, r⟩
   ·rcases List.mem_append.1 hn with hn | hn
    ·exact ⟨hdk _ _ ((hdat n hn).1.kept fun g hgb => hB6.block g ((hdat n hn).1.lt g hgb)) (hdat n hn).2, (hdat n hn).2⟩
    ·rw [List.mem_singleton.1 hn]
     exact ⟨hdk _ _ (hd5.kept fun g hgb => hb6.block g (hd5.lt g hgb)) hnew, hnew⟩
   ·rw [List.map_append, hns, List.take_add_one]
    congr 1
    have : (nds L)[k]? = some (e.1, e.2.nd) := by unfold nds; rw [List.getElem?_map, he]; rfl
    rw [this]
    rfl
   ·refine ⟨hgr9.os.trans (hB6.os.trans htn.os), hgr9.tape.trans (hB6.tape.trans htn.tape), hgr9.output.trans (hB6.output.trans htn.output), ?_, fun b hb hn => ?_⟩
    ·show W2.heap.size ≤ (w9.setCell _ _).heap.size
     have h1 := hgr9.size
     have h2 := ((Below.refl 0 w9).setCell (p := ⟨w.heap.size + 1, 0, none⟩) (Nat.zero_le _) (.slice (some ⟨g9, 0, none⟩) (k + 1) c9)).size
     omega
    ·exact (hset b hn).trans ((hk9 b hb).trans (htn.block b hb hn))
  ·obtain rfl : k = L.length := by omega
   rw [← nds_length, List.take_length] at hns
   have hnl : ns.length = L.length := by have := congrArg List.length hns; rwa [List.length_map, nds_length] at this
   have k1 : ¬ (L.length : Int) < L.length := by omega
   rw [hnl] at hown
   obtain ⟨gv, cv, rfl, hgv, hgv2⟩ := hown.form hne
   have y1r := (htn.block w.heap.size (by omega) (by omega)).trans y1
   have s0 : wr.cell? ⟨w.heap.size, 0, none⟩ = some (.slice none 0 0) := by rw [Lib.cell_of_heap y1r]; rfl
   have s1 : wr.cell? ⟨w.heap.size, 1, none⟩ = some (.int .i64 0) := by rw [Lib.cell_of_heap y1r]; rfl
   have s2 : wr.cell? ⟨w.heap.size, 2, none⟩ = some (.int .i64 0) := by rw [Lib.cell_of_heap y1r]; rfl
   have g0 := Lib.frozen_of_heap y1r 0
   have g1 := Lib.frozen_of_heap y1r 1
   have g2 := Lib.frozen_of_heap y1r 2
   obtain ⟨cur, hgc, hcv, hcm, hcs, hct⟩ : ∃ cur, wr.heap[gv]? = some (.cells cur 60 (0, 0)) ∧ L.length ≤ cv ∧ cv ≤ maxLen ∧ cur.size = cv * 4 ∧ cur.toList.take (L.length * 4) = flat ns := by
    rcases hown.2 with ⟨e3, _⟩ | ⟨g, cap, cur, e3, hbg, hg, r1, r2, r3, r4⟩
    ·cases e3
    ·cases e3; exact ⟨cur, hg, r1, r2, r3, r4⟩
   go_wp2_with fail
   refine (cutN_some gv L.length cv hcv hcm _).mono ?_
   rintro r w4 ⟨rfl, rfl⟩
   go_wp2
   have y3 := (Below.heap_setCell w4 ⟨w.heap.size + 1, 0, none⟩ (.slice (some ⟨gv, 0, none⟩) L.length L.length) w.heap.size (by simp)).trans y1r
   refine bodyPost_ret (res15 _ _ _ _ _ _ rfl (set_row (set_row (set_row y3 0 _) 1 _) 2 _)) rfl ?_
   obtain ⟨wz, hwz⟩ : ∃ wz, wz = (((w4.setCell ⟨w.heap.size + 1, 0, none⟩ (.slice (some ⟨gv, 0, none⟩) L.length L.length)).setCell ⟨w.heap.size, 0, none⟩ (.slice (some ⟨gv, 0, none⟩) L.length L.length)).setCell ⟨w.heap.size, 1, none⟩ (.int .i64 clk)).setCell ⟨w.heap.size, 2, none⟩ (.int .i64 rm) := ⟨_, rfl⟩
   have hBz : Below w.heap.size w wz := by
    rw [hwz]
    exact (((hBr.setCell (p := ⟨w.heap.size + 1, 0, none⟩) (Nat.le_succ _) _).setCell (p := ⟨w.heap.size, 0, none⟩) (Nat.le_refl _) _).setCell (p := ⟨w.heap.size, 1, none⟩) (Nat.le_refl _) _).setCell (p := ⟨w.heap.size, 2, none⟩) (Nat.le_refl _) _
   have hkz : ∀ b, W2.heap.size ≤ b → wz.heap[b]? = w4.heap[b]? := fun b hb => by
    rw [hwz]
    exact (Below.heap_setCell _ ⟨w.heap.size, 2, none⟩ _ b (by simp; omega)).trans ((Below.heap_setCell _ ⟨w.heap.size, 1, none⟩ _ b (by simp; omega)).trans ((Below.heap_setCell _ ⟨w.heap.size, 0, none⟩ _ b (by simp; omega)).trans (Below.heap_setCell _ ⟨w.heap.size + 1, 0, none⟩ _ b (by simp; omega))))
   rw [← hwz]
   refine ⟨⟨_, ns, rfl, ⟨.inr ⟨gv, L.length, cur, by rw [hnl], by omega, (hkz gv hgv).trans hgc, by omega, by omega, by rw [hnl]; exact hct⟩, fun n hn => (hdat n hn).1.kept fun g hg => hkz g ((hdat n hn).2 g hg), fun n hn g hg => by have := (hdat n hn).2 g hg; omega⟩, hns⟩, hBz⟩
theorem Tree_any (A : Nat) (T : Tr) (clk rm : Int) (S : Nat → Prop) (w : World) (h : IsFs w S A T clk rm) :
  Calls Tryz.prog 17 #[.pointer (some ⟨A, 0, none⟩)] w fun r w' => (∃ v ns, r = .returned (.agg #[v, .int .i64 clk, .int .i64 rm]) ∧ NsAt w' w.heap.size v ns ∧ ns.map toE = T) ∧ Below w.heap.size w w' := by
 by_cases hT : T = []
 ·subst hT
  exact (Tree_none A clk rm S w h).mono fun r w' ⟨hr, hb⟩ => ⟨⟨_, [], hr, NsAt.nil _ _, rfl⟩, hb⟩
 ·obtain ⟨M, L, hF, hO, rfl⟩ := h.mem
  have hl : 0 < L.length := by
   rw [← nds_length]
   exact List.length_pos_iff.2 hT
  have hll : L.length ≤ 1000 := by have := h.len; rwa [nds_length] at this
  have hwn : weight (nds L) ≤ 1048576 := by have h1 := h.wt; have h2 := h.rm; omega
  exact Tree_some A M L _ clk rm w hF hl hll fun e he => Nat.le_trans (data_le hwn e he) (by omega)
end Go.Proofs.YtabmnkddmdffkaaGreatDoor
