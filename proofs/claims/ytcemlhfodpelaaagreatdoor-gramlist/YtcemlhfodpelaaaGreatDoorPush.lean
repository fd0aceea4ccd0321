/- The contracts of the bounded lists' push and pop. -/
import Derived.Test.YtcemlhfodpelaaaGreatDoorMem
import Derived.Test.YtcemlhfodpelaaaGreatDoorZf
import Derived.Deep.QuietTactic
namespace Go.Proofs.YtcemlhfodpelaaaGreatDoor
open Go.RowKit
attribute [local go_sem] run_store_nilFunc run_store_func

abbrev panicsN (n : Int) : Ending := .panicked [{ v := .iface 29 (.int .i64 n), recovered := false }]
section
variable {w : World} {A B : Nat} {T : ByteArray} {l : LS} {tv ov : Value}
theorem LexAt.tlen (h : LexAt w A B T l tv ov) : ∃ a c, tv = .slice a l.tk.length c := by
  rcases h.toks.2 with ⟨h1, h2⟩ | ⟨g, cap, cur, h1, _⟩
  · exact ⟨_, _, by rw [h1, h2]⟩
  · exact ⟨_, _, h1⟩
theorem LexAt.olen (h : LexAt w A B T l tv ov) : ∃ a c, ov = .slice a l.op.length c := by
  rcases h.opens.2 with ⟨h1, h2⟩ | ⟨g, cap, cur, h1, _⟩
  · exact ⟨_, _, by rw [h1, h2]⟩
  · exact ⟨_, _, h1⟩
theorem own_apart {w : World} {B e e' size size' n n' : Nat} {v v' : Value} {xs xs' : List Value} (h : w.ownsRow B e size v n xs) (h' : w.ownsRow B e' size' v' n' xs') (he : e ≠ e') {g : Nat} (hg : v.ownBlock = some g) : v'.ownBlock ≠ some g := by
  obtain ⟨cur, hc⟩ := own_ty h g hg
  exact own_block h' hc he
/-- a thing more is open: w1 is w but for the row of what is open, and new blocks -/
theorem LexAt.pushO (h : LexAt w A B T l tv ov) {w1 : World} {v' : Value} {b : St} (hg : w.grownBy w1 ov.ownBlock) (ho : w1.ownsRow B 91 1 v' (l.op.length + 1) (l.op.map fnV ++ [fnV b])) (hn : l.op.length < 60) :
    LexAt (w1.setCell ⟨A, 6, none⟩ v') A B T ⟨l.fr, l.p, l.tk, l.op ++ [b]⟩ tv v' ∧ Below B w (w1.setCell ⟨A, 6, none⟩ v') := by
  have hA1 : w1.heap[A]? = some (.cells (lexC T l.fr l.p tv ov) 89 (0, 0)) := (hg.block A h.lt (fun e => h.oA e.symm)).trans h.blk
  have hvA : v'.ownBlock ≠ some A := own_block ho hA1 (by decide)
  have ht1 : w1.ownsRow B 60 2 tv l.tk.length (flat l.tk) := own_kept h.toks fun g hgg => hg.block g (own_lt h.toks g hgg) (fun e => own_apart h.toks h.opens (by decide) hgg e.symm)
  have hB : Below B w (w1.setCell ⟨A, 6, none⟩ v') := by
    refine ⟨hg.os, hg.tape, hg.output, Nat.le_trans hg.size (Nat.le_of_eq (by simp)), fun k hk => ?_⟩
    rw [set_other _ _ _ _ (by have := h.low; omega)]
    refine hg.block k (by have := h.low; have := h.lt; omega) (fun e => ?_)
    have := own_low h.opens k e.symm
    omega
  refine ⟨⟨set_block hA1 6 _, own_kept ht1 fun g hgg => set_other _ _ _ _ (fun e => h.tA (e ▸ hgg)), ?_, h.low, h.size, h.frp, h.pn, h.nt, ?_, h.glo' hB⟩, hB⟩
  · have := own_kept (w' := w1.setCell ⟨A, 6, none⟩ v') ho fun g hgg => set_other _ _ _ _ (fun e => hvA (e ▸ hgg))
    simpa using this
  · simp only [List.length_append, List.length_cons, List.length_nil]; omega
/-- a token more -/
theorem LexAt.pushT (h : LexAt w A B T l tv ov) {w1 : World} {v' : Value} {t : Nat × Bs} (hg : w.grownBy w1 tv.ownBlock) (ho : w1.ownsRow B 60 2 v' (l.tk.length + 1) (flat l.tk ++ tokC t)) (hn : l.tk.length < 5000) :
    LexAt (w1.setCell ⟨A, 3, none⟩ v') A B T ⟨l.fr, l.p, l.tk ++ [t], l.op⟩ v' ov ∧ Below B w (w1.setCell ⟨A, 3, none⟩ v') := by
  have hA1 : w1.heap[A]? = some (.cells (lexC T l.fr l.p tv ov) 89 (0, 0)) := (hg.block A h.lt (fun e => h.tA e.symm)).trans h.blk
  have hvA : v'.ownBlock ≠ some A := own_block ho hA1 (by decide)
  have ht1 : w1.ownsRow B 91 1 ov l.op.length (l.op.map fnV) := own_kept h.opens fun g hgg => hg.block g (own_lt h.opens g hgg) (fun e => own_apart h.opens h.toks (by decide) hgg e.symm)
  have hB : Below B w (w1.setCell ⟨A, 3, none⟩ v') := by
    refine ⟨hg.os, hg.tape, hg.output, Nat.le_trans hg.size (Nat.le_of_eq (by simp)), fun k hk => ?_⟩
    rw [set_other _ _ _ _ (by have := h.low; omega)]
    refine hg.block k (by have := h.low; have := h.lt; omega) (fun e => ?_)
    have := own_low h.toks k e.symm
    omega
  refine ⟨⟨set_block hA1 3 _, ?_, own_kept ht1 fun g hgg => set_other _ _ _ _ (fun e => h.oA (e ▸ hgg)), h.low, h.size, h.frp, h.pn, ?_, h.no, h.glo' hB⟩, hB⟩
  · have := own_kept (w' := w1.setCell ⟨A, 3, none⟩ v') ho fun g hgg => set_other _ _ _ _ (fun e => hvA (e ▸ hgg))
    simpa [flat, tokC] using this
  · simp only [List.length_append, List.length_cons, List.length_nil]; omega
end
theorem info53 : (Tryz.prog.info? 91).map (fun i : TypeInfo => (i.zero, i.size, i.bytes)) = some (some .nilFunc, 1, 8) := by kernel_rfl
theorem info28 : (Tryz.prog.info? 60).map (fun i : TypeInfo => (i.zero, i.size, i.bytes)) = some (some (.agg #[.int .i64 0, .string ⟨#[]⟩]), 2, 24) := by kernel_rfl
set_option maxHeartbeats 1000000 in
theorem opush_full (w : World) (A B : Nat) (T : ByteArray) (l : LS) (tv ov : Value) (x : Value) (h : LexAt w A B T l tv ov) (hf : l.op.length = 60) :
    Calls Tryz.prog 135 #[.pointer (some ⟨A, 6, none⟩), x] w fun e w' => e = panicsN 42 ∧ Below w.heap.size w w' := by
  obtain ⟨a, c, hov⟩ := h.olen
  have k6 := h.c6
  have k7 := h.c7
  have k8 := h.c8
  rw [hov, hf] at k6
  clear h hov hf
  go_enter Tryz.func135, Tryz.ntmps135
  go_wp2
  go_quiet (fail)
  go_wp2
  exact ⟨rfl, rfl, below_drewn nq⟩
theorem new_one (W : World) (x : Value) (t : TypeId) : ∀ j u, [x][j]? = some u → (W.alloc (.cells #[x] t)).cell? ((⟨W.heap.size, 0, none⟩ : Addr).add j) = some u := by
  intro j u hj
  rw [Addr.add_lit, Nat.zero_add, Lib.cell_of_heap (heap_alloc_new W _)]
  match j, hj with
  | 0, hj => exact hj
set_option maxHeartbeats 1000000 in
theorem opush_room (w : World) (A B : Nat) (T : ByteArray) (l : LS) (tv ov : Value) (b : St) (h : LexAt w A B T l tv ov) (hf : l.op.length < 60) :
    Calls Tryz.prog 135 #[.pointer (some ⟨A, 6, none⟩), fnV b] w fun e w' => e = .returned (.tuple #[]) ∧ Below B w w' ∧ ∃ ov', LexAt w' A B T ⟨l.fr, l.p, l.tk, l.op ++ [b]⟩ tv ov' := by
  obtain ⟨a, c, hov⟩ := h.olen
  have k6 := h.c6
  have k7 := h.c7
  rw [hov] at k6
  have hne : ((l.op.length : Int) == 60) = false := by simp; omega
  obtain ⟨inf, hi, hz0, hz1, hz2⟩ := info_parts info53
  have hlt := h.lt
  have hlow := h.low
  go_enter Tryz.func135, Tryz.ntmps135
  go_wp2
  go_quiet (fail)
  have H := hide' h
  have hb : Below w.heap.size w ((w.drewN nq).alloc (.cells #[fnV b] 91)) := (below_drewn nq).alloc (Nat.le_refl _) _
  have hown : ((w.drewN nq).alloc (.cells #[fnV b] 91)).ownsRow B 91 1 ov l.op.length (l.op.map fnV) := (h.below hb).opens
  rw [hov] at hown
  clear h
  go_wp2_with (at_builtin; refine wpList_append_lies _ rfl _ _ 85 rfl B 91 inf _ 1 8 Tryz.underlying85 hi hz0 hz1 hz2 rfl (by decide) (.slice a l.op.length c) l.op.length (l.op.map fnV) rfl hown ⟨w.heap.size, 0, none⟩ 1 1 [fnV b] rfl rfl (new_one (w.drewN nq) (fnV b) 91) (by simp [Value.oneCell']) (by decide) (by unfold maxLen; omega) (by omega) (by simp; omega) _ rfl ?_)
  intro g cap w1 ho hg hat hlt1
  have hg' : w.grownBy w1 ov.ownBlock := by rw [hov]; exact ⟨hg.os, hg.tape, hg.output, Nat.le_trans hb.size hg.size, fun k hk hne => (hg.block k (Nat.lt_of_lt_of_le hk hb.size) hne).trans (hb.block k hk)⟩
  have hend := H.out.pushO hg' ho hf
  have hA1 : w1.heap[A]? = _ := (hg'.block A hlt (fun e => H.out.oA e.symm)).trans H.out.blk
  have f6 := Lib.frozen_of_heap hA1 6
  have e6 : w1.cell? ⟨A, 6, none⟩ = some ov := by rw [Lib.cell_of_heap hA1]; rfl
  have HE := hide' hend
  clear hend hg hg' ho hat hA1 hown hb H
  go_wp2
  go_end0
  exact ⟨rfl, HE.out.2, _, HE.out.1⟩
set_option maxHeartbeats 1000000 in
theorem tpush_full (w : World) (A B : Nat) (T : ByteArray) (l : LS) (tv ov : Value) (k : Int) (x : ByteArray) (h : LexAt w A B T l tv ov) (hf : l.tk.length = 5000) :
    Calls Tryz.prog 88 #[.pointer (some ⟨A, 3, none⟩), .agg #[.int .i64 k, .string x]] w fun e w' => e = panicsN 2 ∧ Below w.heap.size w w' := by
  obtain ⟨a, c, hov⟩ := h.tlen
  have hb : Below w.heap.size w (w.alloc (.cells #[.int .i64 k, .string x] 60)) := (Below.refl _ _).alloc (Nat.le_refl _) _
  have h1 := h.below hb
  have k6 := h1.c3
  have k7 := h1.c4
  have k8 := h1.c5
  rw [hov, hf] at k6
  clear h h1 hov hf
  go_enter Tryz.func88, Tryz.ntmps88
  go_wp2
  go_quiet (fail)
  go_wp2
  exact ⟨rfl, rfl, hb.trans (below_drewn _)⟩
structure PuC (A b : Nat) (tv : Value) (k : Int) (x : ByteArray) (w : World) : Prop where
  c3 : w.cell? ⟨A, 3, none⟩ = some tv
  b0 : w.cell? ⟨b, 0, none⟩ = some (.int .i64 k)
  b1 : w.cell? ⟨b, 1, none⟩ = some (.string x)
theorem PuC.below {A b : Nat} {tv : Value} {k : Int} {x : ByteArray} {w w' : World} (h : PuC A b tv k x w) (hb : Below w.heap.size w w') (hA : A < w.heap.size) (hbl : b < w.heap.size) : PuC A b tv k x w' :=
  ⟨(hb.cell (p := ⟨A, 3, none⟩) hA).trans h.c3, (hb.cell (p := ⟨b, 0, none⟩) hbl).trans h.b0, (hb.cell (p := ⟨b, 1, none⟩) hbl).trans h.b1⟩
theorem new_two (W : World) (k : Int) (x : ByteArray) (t : TypeId) : ∀ j u, [Value.int .i64 k, .string x][j]? = some u → (W.alloc (.cells #[.int .i64 k, .string x] t)).cell? ((⟨W.heap.size, 0, none⟩ : Addr).add j) = some u := by
  intro j u hj
  rw [Addr.add_lit, Nat.zero_add, Lib.cell_of_heap (heap_alloc_new W _)]
  match j, hj with
  | 0, hj => exact hj
  | 1, hj => exact hj
set_option maxHeartbeats 1000000 in
theorem tpush_room (w : World) (A B : Nat) (T : ByteArray) (l : LS) (tv ov : Value) (k : Nat) (x : Bs) (h : LexAt w A B T l tv ov) (hf : l.tk.length < 5000) :
    Calls Tryz.prog 88 #[.pointer (some ⟨A, 3, none⟩), .agg #[.int .i64 k, .string (mk x)]] w fun e w' => e = .returned (.tuple #[]) ∧ Below B w w' ∧ ∃ tv', LexAt w' A B T ⟨l.fr, l.p, l.tk ++ [(k, x)], l.op⟩ tv' ov := by
  obtain ⟨a, c, hov⟩ := h.tlen
  obtain ⟨W, hW⟩ : ∃ W, W = w.alloc (.cells #[.int .i64 k, .string (mk x)] 60) := ⟨_, rfl⟩
  have hb : Below w.heap.size w W := by rw [hW]; exact (Below.refl _ _).alloc (Nat.le_refl _) _
  have hWz : W.heap.size = w.heap.size + 1 := by rw [hW]; simp
  have h1 := h.below hb
  have hbx : W.heap[w.heap.size]? = some (.cells #[.int .i64 k, .string (mk x)] 60 (0, 0)) := by rw [hW]; exact heap_alloc_new w _
  have hC0 : PuC A w.heap.size (.slice a l.tk.length c) k (mk x) W := ⟨hov ▸ h1.c3, by rw [Lib.cell_of_heap hbx]; rfl, by rw [Lib.cell_of_heap hbx]; rfl⟩
  have hlt := h.lt
  have hlow := h.low
  have k6 := h1.c3
  have k7 := h1.c4
  rw [hov] at k6
  have hne : ((l.tk.length : Int) == 5000) = false := by simp; omega
  obtain ⟨inf, hi, hz0, hz1, hz2⟩ := info_parts info28
  have HW := hide' hW
  have H1 := hide' h1
  have H0 := hide' h
  have HB := hide' hb
  have HC := hide' hC0
  clear hW h1 h hb hbx hC0
  go_enter Tryz.func88, Tryz.ntmps88
  go_wp2
  rw [← HW.out]
  go_quiet (fail)
  go_wp2_with fail
  have hC : PuC A w.heap.size (.slice a l.tk.length c) k (mk x) (W.drewN nq).drew := ⟨HC.out.c3, HC.out.b0, HC.out.b1⟩
  refine wp_region_classX [10] (C := PuC A w.heap.size (.slice a l.tk.length c) k (mk x)) (by kernel_rfl) ?_
  (refine wpAnyX_take (i := 0) (v := ?_) hC rfl (by kernel_rfl) (by kernel_rfl) (by kernel_rfl) (by kernel_rfl) (fun _ _ _ h => h) (Or.inl ⟨by kernel_rfl, ?_⟩) ?_; rotate_left; (intro w hc; have k0 := hc.c3; have k1 := hc.b0; have k2 := hc.b1; clear hc; go_simp; try with_reducible rfl))
  (refine wpAnyX_take (i := 1) (v := ?_) hC rfl (by kernel_rfl) (by kernel_rfl) (by kernel_rfl) (by kernel_rfl) (fun _ _ _ h => h) (Or.inl ⟨by kernel_rfl, ?_⟩) ?_; rotate_left; (intro w hc; have k0 := hc.c3; have k1 := hc.b0; have k2 := hc.b1; clear hc; go_simp; try with_reducible rfl))
  (refine wpAnyX_take (i := 2) (v := ?_) hC rfl (by kernel_rfl) (by kernel_rfl) (by kernel_rfl) (by kernel_rfl) (fun _ _ _ h => h) (Or.inl ⟨by kernel_rfl, ?_⟩) ?_; rotate_left; (intro w hc; have k0 := hc.c3; have k1 := hc.b0; have k2 := hc.b1; clear hc; go_simp; try with_reducible rfl))
  (refine wpAnyX_take (i := 3) (v := ?_) hC rfl (by kernel_rfl) (by kernel_rfl) (by kernel_rfl) (by kernel_rfl) (fun _ _ _ h => h) (Or.inl ⟨by kernel_rfl, ?_⟩) ?_; rotate_left; (intro w hc; have k0 := hc.c3; have k1 := hc.b0; have k2 := hc.b1; clear hc; go_simp; try with_reducible rfl))
  (refine wpAnyX_take (i := 4) (v := ?_) hC rfl (by kernel_rfl) (by kernel_rfl) (by kernel_rfl) (by kernel_rfl) (fun _ _ _ h => h) (Or.inl ⟨by kernel_rfl, ?_⟩) ?_; rotate_left; (intro w hc; have k0 := hc.c3; have k1 := hc.b0; have k2 := hc.b1; clear hc; go_simp; try with_reducible rfl))
  (refine wpAnyX_take (i := 5) (v := ?_) hC rfl (by kernel_rfl) (by kernel_rfl) (by kernel_rfl) (by kernel_rfl) (fun _ _ _ h => h) (Or.inl ⟨by kernel_rfl, ?_⟩) ?_; rotate_left; (intro w hc; have k0 := hc.c3; have k1 := hc.b0; have k2 := hc.b1; clear hc; go_simp; try with_reducible rfl))
  have hbW : Below W.heap.size W ((W.drewN (nq + 1)).alloc (.cells #[.int .i64 k, .string (mk x)] 60)) := (below_drewn (nq + 1)).alloc (Nat.le_refl _) _
  have hC6 : PuC A w.heap.size (.slice a l.tk.length c) k (mk x) ((W.drewN (nq + 1)).alloc (.cells #[.int .i64 k, .string (mk x)] 60)) := HC.out.below hbW (by omega) (by omega)
  have hown : ((W.drewN (nq + 1)).alloc (.cells #[.int .i64 k, .string (mk x)] 60)).ownsRow B 60 2 tv l.tk.length (flat l.tk) := (H1.out.below hbW).toks
  rw [hov] at hown
  refine wpAnyX_one (i := 6) (by kernel_rfl) (wpOp_wanted rfl (by rfl) ?_)
  go_simp
  have hnew := new_two (W.drewN (nq + 1)) k (mk x) 60
  rw [show (W.drewN (nq + 1)).heap.size = w.heap.size + 1 from hWz] at hnew
  refine wpAnyX_one (i := 7) (by kernel_rfl) (wpOp_wanted rfl (by rfl) ?_)
  refine wp_append_lies _ _ _ 44 rfl B 60 inf _ 2 24 Tryz.underlying44 hi hz0 hz1 hz2 rfl (by decide) (.slice a l.tk.length c) l.tk.length (flat l.tk) rfl hown ⟨w.heap.size + 1, 0, none⟩ 1 1 (tokC (k, x)) rfl rfl hnew (by simp [tokC, Value.oneCell']) (by decide) (by unfold maxLen; omega) (by omega) (by simp; omega) _ rfl ?_
  intro g cap w1 ho hg hat hlt1
  have hg1 : W.grownBy w1 tv.ownBlock := by rw [hov]; exact ⟨hg.os, hg.tape, hg.output, Nat.le_trans hbW.size hg.size, fun k hk hne => (hg.block k (Nat.lt_of_lt_of_le hk hbW.size) hne).trans (hbW.block k hk)⟩
  have hend := H1.out.pushT hg1 ho hf
  have hA1 : w1.heap[A]? = _ := (hg1.block A (by omega) (fun e => H1.out.tA e.symm)).trans H1.out.blk
  have f6 := Lib.frozen_of_heap hA1 3
  have e6 : w1.cell? ⟨A, 3, none⟩ = some tv := by rw [Lib.cell_of_heap hA1]; rfl
  have hC7 : PuC A w.heap.size (.slice a l.tk.length c) k (mk x) w1 := by
    have hwb : w1.heap[w.heap.size]? = W.heap[w.heap.size]? := hg1.block _ (by omega) (fun e => by
      have := own_lt H0.out.toks _ e.symm
      omega)
    exact ⟨hov ▸ e6, (World.cell?_of_block (a := ⟨w.heap.size, 0, none⟩) hwb).trans HC.out.b0, (World.cell?_of_block (a := ⟨w.heap.size, 1, none⟩) hwb).trans HC.out.b1⟩
  refine ⟨fun _ => hC7, ?_⟩
  have HE := hide' hend
  clear hend hg hg1 ho hat hA1 hown hbW hC6 hC
  refine wpAnyX_one (i := 8) (by kernel_rfl) (wpOp_wanted rfl (by rfl) ?_)
  go_simp
  refine wpAnyX_one (i := 9) (by kernel_rfl) (wpOp_wanted rfl (by rfl) ?_)
  go_simp
  refine wpAnyX_one (i := 10) (by kernel_rfl) (wpOp_wanted rfl (by rfl) ?_)
  go_simp
  refine wpAnyX_done (by kernel_rfl) ?_ _
  go_wp2
  go_end0
  exact ⟨rfl, (HB.out.mono (by omega)).trans HE.out.2, _, HE.out.1⟩
/-- what a shorter slice of a row owns -/
theorem own_cut {w : World} {B e n : Nat} {v : Value} {xs : List Value} (h : w.ownsRow B e 1 v (n + 1) xs) : ∃ g cap, v = .slice (some ⟨g, 0, none⟩) (n + 1) cap ∧ n + 1 ≤ cap ∧ cap ≤ maxLen ∧ B ≤ g ∧ (∀ j, j < n + 1 → w.cell? ⟨g, j, none⟩ = xs[j]?) ∧ w.ownsRow B e 1 (.slice (some ⟨g, 0, none⟩) n cap) n (xs.take n) := by
  rcases h.2 with ⟨_, h2⟩ | ⟨g, cap, cur, rfl, hg, hh, h3, h4, h5, h6⟩
  · cases h2
  · refine ⟨g, cap, rfl, h3, h4, hg, fun j hj => ?_, ?_, .inr ⟨g, cap, cur, rfl, hg, hh, by omega, h4, h5, ?_⟩⟩
    · rw [Lib.cell_of_heap hh, ← h6, List.getElem?_take_of_lt (by omega)]; simp
    · rw [List.length_take, h.1]; omega
    · rw [← h6, List.take_take]; congr 1; omega
set_option maxHeartbeats 1000000 in
theorem pop_any (w : World) (A B : Nat) (T : ByteArray) (l : LS) (tv ov : Value) (os : List St) (b : St) (h : LexAt w A B T l tv ov) (hf : l.op = os ++ [b]) :
    Calls Tryz.prog 145 #[.pointer (some ⟨A, 6, none⟩)] w fun e w' => e = .returned (fnV b) ∧ Below B w w' ∧ ∃ ov', LexAt w' A B T ⟨l.fr, l.p, l.tk, os⟩ tv ov' := by
  have hn : l.op.length = os.length + 1 := by rw [hf]; simp
  have hop := h.opens
  rw [hn] at hop
  obtain ⟨g, cap, hv, h1, h2, h3, h4, h5⟩ := own_cut hop
  have hno := h.no
  have c1 : w.cell? ⟨g, os.length, none⟩ = some (fnV b) := by rw [h4 _ (by omega), hf]; simp
  have k6 := h.c6
  rw [hv] at k6
  have hend : LexAt (w.setCell ⟨A, 6, none⟩ (.slice (some ⟨g, 0, none⟩) os.length cap)) A B T ⟨l.fr, l.p, l.tk, os⟩ tv (.slice (some ⟨g, 0, none⟩) os.length cap) := by
    have hgA : g ≠ A := fun e => h.oA (by rw [hv, e]; rfl)
    refine ⟨set_block h.blk 6 _, own_kept h.toks fun _ hg => set_other _ _ _ _ (fun e => h.tA (e ▸ hg)), ?_, h.low, h.size, h.frp, h.pn, h.nt, by simp only; omega, h.glo' (below_set h 6 _)⟩
    have h6 : (l.op.map fnV).take os.length = os.map fnV := by rw [hf, List.map_append]; exact List.take_left' (by simp)
    rw [h6] at h5
    exact own_kept h5 fun _ hg => set_other _ _ _ _ (fun e => hgA (by have : g = _ := Option.some.inj hg; rw [this]; exact e))
  have HE := hide' hend
  have HB := hide' (below_set h 6 (.slice (some ⟨g, 0, none⟩) os.length cap))
  have f6 := h.fz 6
  clear h hend h4 h5 hop hf hv
  go_enter Tryz.func145, Tryz.ntmps145
  go_wp2
  go_ret
  exact ⟨rfl, HB.out, _, HE.out⟩
end Go.Proofs.YtcemlhfodpelaaaGreatDoor
