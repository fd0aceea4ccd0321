/- slices.Sorted(maps.Keys(m)) at this program; the contract of (*FS).Tree at an empty tree. -/
import Derived.Test.YtamohpcdchhbbaaGreatDoorNew
namespace Go.Proofs
section
open Go.RowKit Go.Maps Go.Sort Go.Shelf

theorem Tryz.sorts36 (m : Nat) : AnyZ.SortsIn Tryz.prog Tryz.sorted36_ren Fence.wide m :=
  ⟨fun blk off cap ss W hH hblk hsz => callsIn_wide.2 (AnyM.slices_Sort_string Tryz.laysSlM6_f68 blk off cap ss W hH hblk hsz),
   fun p cap W => callsIn_wide.2 (AnyM.slices_Sort_string_none Tryz.laysSlM6_f68 p cap W)⟩

theorem Tryz.maps_Keys_37 (mb : Option Nat) (W : World) : CallsIn Fence.wide 5 Tryz.prog 37 #[.map mb] W fun e w' => e = .returned (.func (.func 69) #[] #[.pointer (some ⟨W.heap.size, 0, none⟩)]) ∧ w' = W.alloc (.cells #[.map mb] 66) :=
  AnyZ.keys_in Tryz.keys37 Fence.wide 5 trivial rfl mb W

set_option maxHeartbeats 1000000 in
theorem Tryz.slices_Sorted_keys_36_37 {H : Type} (b nn : Nat) (D0 : DataW H) (R : Value → Option (DataW H × List MemPlace)) (w : World) (hown : w.ownsMap Tryz.prog 9 R b nn D0) (hmax : Maps.size D0 ≤ maxLen) (hbytes : Maps.size D0 * 16 ≤ 140737488355328) :
    CallsIn Fence.wide 5 Tryz.prog 36 #[.func (.func 69) #[] #[.pointer (some ⟨w.heap.size, 0, none⟩)]] (w.alloc (.cells #[.map (some b)] 66)) fun e w' => ∃ (v : Value) (ss : List (List UInt8)), e = .returned v ∧ ss.Perm (strKeys D0) ∧
      w'.ownsRow (w.alloc (.cells #[.map (some b)] 66)).heap.size 9 1 v ss.length ((ss.mergeSort (fun x y => decide (x ≤ y))).map encStr) ∧ (v = .slice none 0 0 ↔ ss = []) ∧ Below (w.alloc (.cells #[.map (some b)] 66)).heap.size (w.alloc (.cells #[.map (some b)] 66)) w' := by
  have hbl := hown.lt
  have hseq : SeqGives Fence.wide 2 Tryz.prog 69 #[.pointer (some ⟨w.heap.size, 0, none⟩)] encStr (fun ss => ss.Perm (strKeys D0)) (Maps.size D0) (w.alloc (.cells #[.map (some b)] 66)) :=
    AnyZ.keys_gives (ρ := Tryz.keys37_ren) { Tryz.keys37 with } Fence.wide _ trivial rfl (by omega) w.heap.size b nn D0 _ (by simp) (by simp) (by
      obtain ⟨es, clock, hb, Ft, hs, hD⟩ := hown
      exact ⟨es, clock, (Below.heap_alloc _ _ b hbl).trans hb, Ft, hs, hD⟩)
  exact AnyZ.sorted_in Tryz.sorted36 Fence.wide 5 trivial trivial trivial trivial rfl (by omega) (Tryz.sorts36 _) (enters_of Tryz.func68 (by kernel_rfl) rfl) 69 #[.pointer (some ⟨w.heap.size, 0, none⟩)] trivial (enters_of Tryz.func69 (by kernel_rfl) rfl) _ _ hmax hbytes _ hseq

end
namespace YtamohpcdchhbbaaGreatDoor
open Go.RowKit Go.Maps
structure TrC (A : Nat) (clk rm : Int) (w : World) : Prop where
  c0 : w.cell? ⟨A, 2, none⟩ = some (.int .i64 clk)
  c1 : w.cell? ⟨A, 3, none⟩ = some (.int .i64 rm)
theorem cutN_nil (w : World) : Calls Tryz.prog 40 #[.slice none 0 0] w fun r w' => r = .returned (.slice none 0 0) ∧ w' = w := by
  go_enter Tryz.func40, Tryz.ntmps40
  go_wp2
  go_ret
  exact ⟨rfl, rfl⟩
theorem res15 (tmps : Array Value) (b : Nat) (x y z : Value) (W : World) (h4 : tmps.getD 2 undef = .pointer (some ⟨b, 0, none⟩)) (hb : W.heap[b]? = some (.cells #[x, y, z] 24 (0, 0))) : (results Tryz.f15 tmps).run Tryz.prog W = .ok (.agg #[x, y, z]) W := by
  simp only [Array.getD_eq_getD_getElem?] at h4
  have c0 : W.cell? ⟨b, 0, none⟩ = some x := by rw [Lib.cell_of_heap hb]; rfl
  have c1 : W.cell? ⟨b, 1, none⟩ = some y := by rw [Lib.cell_of_heap hb]; rfl
  have c2 : W.cell? ⟨b, 2, none⟩ = some z := by rw [Lib.cell_of_heap hb]; rfl
  simp [results, Tryz.results15, go_sem, h4, c0, c1, c2]
set_option maxRecDepth 100000 in
set_option maxHeartbeats 2000000 in
theorem Tree_none (A : Nat) (clk rm : Int) (S : Nat → Prop) (w : World) (h : IsFs w S A [] clk rm) :
    Calls Tryz.prog 15 #[.pointer (some ⟨A, 0, none⟩)] w fun r w' => r = .returned (.agg #[.slice none 0 0, .int .i64 clk, .int .i64 rm]) ∧ Below w.heap.size w w' := by
  obtain ⟨M, L, hF, hO, hL⟩ := h.mem
  obtain rfl : L = [] := List.map_eq_nil_iff.1 hL
  have hA := hF.fb.lt
  have b0 : Below w.heap.size w (w.alloc (.cells #[.slice none 0 0, .int .i64 0, .int .i64 0] 24)) := (Below.refl _ _).alloc (Nat.le_refl _) _
  have hF1 := hF.below b0
  have hTc : TrC A clk rm (w.alloc (.cells #[.slice none 0 0, .int .i64 0, .int .i64 0] 24)).drew := ⟨hF1.fb.c2, hF1.fb.c3⟩
  go_enter Tryz.func15, Tryz.ntmps15
  go_wp2_with fail
  refine (orEmpty_some A _).mono ?_
  rintro r w0 ⟨rfl, rfl⟩
  go_wp2
  refine wp_region_class (C := TrC A clk rm) (by kernel_rfl) ?_
  (refine wpAnyC_take (i := 0) (v := ?_) hTc rfl (by kernel_rfl) (by kernel_rfl) (by kernel_rfl) (fun _ _ _ h => h) (Or.inl ⟨by kernel_rfl, ?_⟩) ?_; rotate_left; (intro w hc; have k0 := hc.c0; have k1 := hc.c1; clear hc; go_simp; try with_reducible rfl))
  (refine wpAnyC_take (i := 1) (v := ?_) hTc rfl (by kernel_rfl) (by kernel_rfl) (by kernel_rfl) (fun _ _ _ h => h) (Or.inl ⟨by kernel_rfl, ?_⟩) ?_; rotate_left; (intro w hc; have k0 := hc.c0; have k1 := hc.c1; clear hc; go_simp; try with_reducible rfl))
  (refine wpAnyC_take (i := 2) (v := ?_) hTc rfl (by kernel_rfl) (by kernel_rfl) (by kernel_rfl) (fun _ _ _ h => h) (Or.inl ⟨by kernel_rfl, ?_⟩) ?_; rotate_left; (intro w hc; have k0 := hc.c0; have k1 := hc.c1; clear hc; go_simp; try with_reducible rfl))
  (refine wpAnyC_take (i := 3) (v := ?_) hTc rfl (by kernel_rfl) (by kernel_rfl) (by kernel_rfl) (fun _ _ _ h => h) (Or.inl ⟨by kernel_rfl, ?_⟩) ?_; rotate_left; (intro w hc; have k0 := hc.c0; have k1 := hc.c1; clear hc; go_simp; try with_reducible rfl))
  (refine wpAnyC_take (i := 4) (v := ?_) hTc rfl (by kernel_rfl) (by kernel_rfl) (by kernel_rfl) (fun _ _ _ h => h) (Or.inl ⟨by kernel_rfl, ?_⟩) ?_; rotate_left; (intro w hc; have k0 := hc.c0; have k1 := hc.c1; clear hc; go_simp; try with_reducible rfl))
  (refine wpAnyC_take (i := 5) (v := ?_) hTc rfl (by kernel_rfl) (by kernel_rfl) (by kernel_rfl) (fun _ _ _ h => h) (Or.inl ⟨by kernel_rfl, ?_⟩) ?_; rotate_left; (intro w hc; have k0 := hc.c0; have k1 := hc.c1; clear hc; go_simp; try with_reducible rfl))
  (refine wpAnyC_take (i := 6) (v := ?_) hTc rfl (by kernel_rfl) (by kernel_rfl) (by kernel_rfl) (fun _ _ _ h => h) (Or.inl ⟨by kernel_rfl, ?_⟩) ?_; rotate_left; (intro w hc; have k0 := hc.c0; have k1 := hc.c1; clear hc; go_simp; try with_reducible rfl))
  (refine wpAnyC_take (i := 7) (v := ?_) hTc rfl (by kernel_rfl) (by kernel_rfl) (by kernel_rfl) (fun _ _ _ h => h) (Or.inl ⟨by kernel_rfl, ?_⟩) ?_; rotate_left; (intro w hc; have k0 := hc.c0; have k1 := hc.c1; clear hc; go_simp; try with_reducible rfl))
  (refine wpAnyC_take (i := 8) (v := ?_) hTc rfl (by kernel_rfl) (by kernel_rfl) (by kernel_rfl) (fun _ _ _ h => h) (Or.inl ⟨by kernel_rfl, ?_⟩) ?_; rotate_left; (intro w hc; have k0 := hc.c0; have k1 := hc.c1; clear hc; go_simp; try with_reducible rfl))
  have b1 : ∀ o, Below w.heap.size w ((w.alloc (.cells #[.slice none 0 0, .int .i64 0, .int .i64 0] 24)).alloc o) := fun o => b0.alloc (by simp) o
  have hF2 := fun o => hF.below (b1 o)
  have hTc2 : TrC A clk rm ((w.alloc (.cells #[.slice none 0 0, .int .i64 0, .int .i64 0] 24)).alloc (.cells #[.slice none 0 0, .int .i64 0, .int .i64 0] 24)).drew := ⟨(hF2 _).fb.c2, (hF2 _).fb.c3⟩
  have hTc3 : TrC A clk rm ((w.alloc (.cells #[.slice none 0 0, .int .i64 0, .int .i64 0] 24)).alloc (.cells #[.slice none 0 0, .int .i64 clk, .int .i64 rm] 24)).drew := ⟨(hF2 _).fb.c2, (hF2 _).fb.c3⟩
  refine wpAnyC_one (i := 9) (by kernel_rfl) (wpOp_wanted rfl (by rfl) ?_)
  go_simp
  refine wpAnyC_one (i := 10) (by kernel_rfl) (wpOp_wanted rfl (by rfl) ?_)
  go_simp
  refine wpAnyC_done (by kernel_rfl) ?_ _
  obtain ⟨W, hW⟩ : ∃ W, W = ((w.alloc (.cells #[.slice none 0 0, .int .i64 0, .int .i64 0] 24)).alloc (.cells #[.slice none 0 0, .int .i64 clk, .int .i64 rm] 24)).drew := ⟨_, rfl⟩
  have hBW : Below w.heap.size w W := by rw [hW]; exact (b1 _).drew
  have hFW := hF.below hBW
  have hsW : w.heap.size + 1 < W.heap.size := by rw [hW]; show _ < ((w.alloc _).alloc _).heap.size; simp
  have hz1 : W.heap[w.heap.size]? = some (.cells #[.slice none 0 0, .int .i64 0, .int .i64 0] 24 (0, 0)) := by rw [hW]; exact (Below.heap_alloc _ _ _ (by simp)).trans (alloc_new _ _)
  have hz2 : W.heap[w.heap.size + 1]? = some (.cells #[.slice none 0 0, .int .i64 clk, .int .i64 rm] 24 (0, 0)) := by
    rw [hW]
    have q := alloc_new (w.alloc (.cells #[.slice none 0 0, .int .i64 0, .int .i64 0] 24)) (.cells #[.slice none 0 0, .int .i64 clk, .int .i64 rm] 24)
    rw [size_alloc'] at q
    exact q
  rw [← hW]
  clear hW hTc hTc2 hTc3 hF2 b1 b0 hF1
  have f0 := hFW.fb.c0
  go_wp2_with fail
  refine (callsIn_wide.1 (Tryz.maps_Keys_37 _ _)).mono ?_
  rintro r W1 ⟨rfl, hW1⟩
  have q := callsIn_wide.1 (Tryz.slices_Sorted_keys_36_37 (H := Unit) M 0 (datum (blks [])) ptrElem W hFW.mp (by simp [datum_size, blks]) (by simp [datum_size, blks]))
  subst hW1
  go_wp2_with fail
  refine q.mono ?_
  rintro r W2 ⟨v, ss, rfl, hp, hrow, hnil, hb2⟩
  obtain rfl : ss = [] := by rw [datum_keys] at hp; exact List.Perm.eq_nil (by simpa [blks] using hp)
  obtain rfl : v = .slice none 0 0 := hnil.2 rfl
  have hb2' : Below W.heap.size W W2 := ((Below.refl _ _).alloc (Nat.le_refl _) _).trans (hb2.mono (by simp))
  have hB2 := hBW.trans (hb2'.mono hBW.size)
  have y1 := (hb2'.block _ (by omega)).trans hz1
  have y2 := (hb2'.block _ hsW).trans hz2
  clear hrow hnil hp hb2 q hz1 hz2 f0 hFW hF
  go_wp2
  go_loopw [5, 6, 25] (fun _ _ i wr => i = .int .i64 0 ∧ wr = W2) (fun _ _ _ _ => 0)
  case atStart => exact ⟨rfl, rfl⟩
  case round =>
    obtain ⟨rfl, rfl⟩ := hrel
    have z0 : wr.cell? ⟨w.heap.size + 1, 0, none⟩ = some (.slice none 0 0) := by rw [Lib.cell_of_heap y2]; rfl
    have z1 : wr.cell? ⟨w.heap.size + 1, 1, none⟩ = some (.int .i64 clk) := by rw [Lib.cell_of_heap y2]; rfl
    have z2 : wr.cell? ⟨w.heap.size + 1, 2, none⟩ = some (.int .i64 rm) := by rw [Lib.cell_of_heap y2]; rfl
    have t0 : wr.cell? ⟨w.heap.size, 0, none⟩ = some (.slice none 0 0) := by rw [Lib.cell_of_heap y1]; rfl
    have t1 : wr.cell? ⟨w.heap.size, 1, none⟩ = some (.int .i64 0) := by rw [Lib.cell_of_heap y1]; rfl
    have t2 : wr.cell? ⟨w.heap.size, 2, none⟩ = some (.int .i64 0) := by rw [Lib.cell_of_heap y1]; rfl
    have g0 := Lib.frozen_of_heap y1 0
    have g1 := Lib.frozen_of_heap y1 1
    have g2 := Lib.frozen_of_heap y1 2
    have g3 := Lib.frozen_of_heap y2 0
    go_wp2_with fail
    refine (cutN_nil _).mono ?_
    rintro r w4 ⟨rfl, rfl⟩
    go_wp2
    have y3 := (Below.heap_setCell w4 ⟨w.heap.size + 1, 0, none⟩ (.slice none 0 0) w.heap.size (by simp)).trans y1
    refine bodyPost_ret (res15 _ _ _ _ _ _ rfl (set_row (set_row (set_row y3 0 _) 1 _) 2 _)) rfl ?_
    exact ⟨rfl, (((hB2.setCell (p := ⟨w.heap.size + 1, 0, none⟩) (Nat.le_succ _) _).setCell (p := ⟨w.heap.size, 0, none⟩) (Nat.le_refl _) _).setCell (p := ⟨w.heap.size, 1, none⟩) (Nat.le_refl _) _).setCell (p := ⟨w.heap.size, 2, none⟩) (Nat.le_refl _) _⟩
end YtamohpcdchhbbaaGreatDoor
end Go.Proofs
