/- The contracts of vfs.planted and vfs.New. -/
import Derived.Test.YtabmnkddmdffkaaGreatDoorAPlan3
namespace Go.Proofs.YtabmnkddmdffkaaGreatDoor
open Go.RowKit Go.Maps

set_option maxRecDepth 100000 in
set_option maxHeartbeats 4000000 in
theorem planted_nil (E : Addr) (sa : Option Addr) (sc : Nat) (clk rm : Int) (w : World) (ho : okTree clk rm) :
    Calls Tryz.prog 21 #[.agg #[.slice sa 0 sc, .int .i64 clk, .int .i64 rm]] w fun r w' => PlAt E clk rm w r w' (newR [] clk rm) := by
  have hb0 : Below w.heap.size w (w.alloc (.cells #[.slice sa 0 sc, .int .i64 clk, .int .i64 rm] 24)) := (Below.refl _ _).alloc (Nat.le_refl _) _
  have q := lengths_any E (.slice sa 0 sc) [] clk rm (w.alloc (.cells #[.slice sa 0 sc, .int .i64 clk, .int .i64 rm] 24)) (.inl ⟨⟨_, _, rfl⟩, rfl⟩)
  have hl : lenR [] = .ok := rfl
  have hbk := alloc_new w (.cells #[.slice sa 0 sc, .int .i64 clk, .int .i64 rm] 24)
  rw [hl] at q
  have ho' := ho
  unfold okTree at ho'
  obtain ⟨h1, h2, h3, h4⟩ := ho'
  have n1 : ¬ clk < 0 := by omega
  have n2 : ¬ 1099511627776 < clk := by omega
  have n3 : ¬ rm < 0 := by omega
  have n4 : ¬ 1048576 < rm := by omega
  have hmm := fun (w : World) => run_mk66 0 w
  go_enter Tryz.func21, Tryz.ntmps21
  go_wp2_with fail
  refine q.mono ?_
  rintro r w1 ⟨⟨v, rfl, rfl⟩, hb1⟩
  have hbk1 := (hb1.block w.heap.size (by simp)).trans hbk
  have hPl : PlC w.heap.size (.slice sa 0 sc) clk rm w1 := ⟨by rw [Lib.cell_of_heap hbk1]; rfl, by rw [Lib.cell_of_heap hbk1]; rfl, by rw [Lib.cell_of_heap hbk1]; rfl⟩
  have hs1 : w.heap.size < w1.heap.size := by have := hb1.size; simp at this; omega
  have hB1 := hb0.trans (hb1.mono hb0.size)
  have d0 := hPl.c0
  have d1 := hPl.c1
  have d2 := hPl.c2
  have hPld : PlC w.heap.size (.slice sa 0 sc) clk rm w1.drew := ⟨hPl.c0, hPl.c1, hPl.c2⟩
  clear hbk1 hbk q hb0 hb1
  go_wp2
  refine wp_region_class (C := PlC w.heap.size (.slice sa 0 sc) clk rm) (by kernel_rfl) ?_
  (refine wpAnyC_take (i := 0) (v := ?_) hPld rfl (by kernel_rfl) (by kernel_rfl) (by kernel_rfl) (fun _ _ _ h => h) (Or.inl ⟨by kernel_rfl, ?_⟩) ?_; rotate_left; (intro w hc; have k0 := hc.c0; have k1 := hc.c1; have k2 := hc.c2; clear hc; go_simp; try with_reducible rfl))
  (refine wpAnyC_take (i := 1) (v := ?_) hPld rfl (by kernel_rfl) (by kernel_rfl) (by kernel_rfl) (fun _ _ _ h => h) (Or.inl ⟨by kernel_rfl, ?_⟩) ?_; rotate_left; (intro w hc; have k0 := hc.c0; have k1 := hc.c1; have k2 := hc.c2; clear hc; go_simp; try with_reducible rfl))
  (refine wpAnyC_take (i := 2) (v := ?_) hPld rfl (by kernel_rfl) (by kernel_rfl) (by kernel_rfl) (fun _ _ _ h => h) (Or.inl ⟨by kernel_rfl, ?_⟩) ?_; rotate_left; (intro w hc; have k0 := hc.c0; have k1 := hc.c1; have k2 := hc.c2; clear hc; go_simp; try with_reducible rfl))
  (refine wpAnyC_take (i := 4) (v := ?_) hPld rfl (by kernel_rfl) (by kernel_rfl) (by kernel_rfl) (fun _ _ _ h => h) (Or.inl ⟨by kernel_rfl, ?_⟩) ?_; rotate_left; (intro w hc; have k0 := hc.c0; have k1 := hc.c1; have k2 := hc.c2; clear hc; go_simp; try with_reducible rfl))
  (refine wpAnyC_take (i := 5) (v := ?_) hPld rfl (by kernel_rfl) (by kernel_rfl) (by kernel_rfl) (fun _ _ _ h => h) (Or.inl ⟨by kernel_rfl, ?_⟩) ?_; rotate_left; (intro w hc; have k0 := hc.c0; have k1 := hc.c1; have k2 := hc.c2; clear hc; go_simp; try with_reducible rfl))
  (refine wpAnyC_take (i := 6) (v := ?_) hPld rfl (by kernel_rfl) (by kernel_rfl) (by kernel_rfl) (fun _ _ _ h => h) (Or.inl ⟨by kernel_rfl, ?_⟩) ?_; rotate_left; (intro w hc; have k0 := hc.c0; have k1 := hc.c1; have k2 := hc.c2; clear hc; go_simp; try with_reducible rfl))
  (refine wpAnyC_take (i := 7) (v := ?_) hPld rfl (by kernel_rfl) (by kernel_rfl) (by kernel_rfl) (fun _ _ _ h => h) (Or.inl ⟨by kernel_rfl, ?_⟩) ?_; rotate_left; (intro w hc; have k0 := hc.c0; have k1 := hc.c1; have k2 := hc.c2; clear hc; go_simp; try with_reducible rfl))
  have hPl2' := hPl.below ((Below.refl _ _).alloc (Nat.le_refl _) (.map #[] 0)) hs1
  have hPl2 : PlC w.heap.size (.slice sa 0 sc) clk rm (w1.alloc (.map #[] 0)).drew := ⟨hPl2'.c0, hPl2'.c1, hPl2'.c2⟩
  have hPl3' := hPl2'.below ((Below.refl _ _).alloc (Nat.le_refl _) (.cells #[.map (some w1.heap.size), .int .i64 0, .int .i64 clk, .int .i64 rm] 94)) (by simp; omega)
  have hPl3 : PlC w.heap.size (.slice sa 0 sc) clk rm ((w1.alloc (.map #[] 0)).alloc (.cells #[.map (some w1.heap.size), .int .i64 0, .int .i64 clk, .int .i64 rm] 94)).drew := ⟨hPl3'.c0, hPl3'.c1, hPl3'.c2⟩
  refine wpAnyC_one (i := 3) (by kernel_rfl) (wpOp_wanted rfl (by rfl) ?_)
  go_simp
  refine wpAnyC_one (i := 8) (by kernel_rfl) (wpOp_wanted rfl (by rfl) ?_)
  go_simp
  refine wpAnyC_one (i := 9) (by kernel_rfl) (wpOp_wanted rfl (by rfl) ?_)
  go_simp
  refine wpAnyC_one (i := 10) (by kernel_rfl) (wpOp_wanted rfl (by rfl) ?_)
  go_simp
  refine wpAnyC_done (by kernel_rfl) ?_ _
  have hfs := fs_new w1 clk rm
  have hB2 : Below w.heap.size w ((w1.alloc (.map #[] 0)).alloc (.cells #[.map (some w1.heap.size), .int .i64 0, .int .i64 clk, .int .i64 rm] 94)).drew := ((hB1.alloc hB1.size _).alloc (by simp; omega) _).drew
  obtain ⟨W, hW⟩ : ∃ W, W = ((w1.alloc (.map #[] 0)).alloc (.cells #[.map (some w1.heap.size), .int .i64 0, .int .i64 clk, .int .i64 rm] 94)).drew := ⟨_, rfl⟩
  have hfsW : FsAt W (w1.heap.size + 1) w1.heap.size [] (weight []) clk rm := by rw [hW]; exact ⟨hfs.fb, hfs.mp, hfs.nodes, hfs.rds, hfs.srt, hfs.keys⟩
  have hszW : W.heap.size = w1.heap.size + 2 := by rw [hW]; show ((w1.alloc _).alloc _).heap.size = _; simp
  have e0 := hPl3.c0
  have e1 := hPl3.c1
  have e2 := hPl3.c2
  rw [← hW] at hB2 e0 e1 e2 ⊢
  clear hfs hPl2 hPl2' hPl3' hPl3 hPl hPld hW hmm d0 d1 d2
  go_wp2
  go_loopw [6, 49] (fun a i wr => a = .string (mk []) ∧ i = .int .i64 0 ∧ wr = W) (fun _ _ _ => 0)
  case atStart => exact ⟨rfl, rfl, rfl⟩
  case round =>
    obtain ⟨rfl, rfl, rfl⟩ := hrel
    have hnew := newR_some hl ho (ns := []) (T := []) (ah := []) rfl
    have f1 := hfsW.fb.c1
    have f3 := hfsW.fb.c3
    go_wp2
    go_region
    have hwr : ¬ rm < ((weight [] : Nat) : Int) := by show ¬ rm < 0; omega
    rw [if_neg hwr] at hnew
    have q := Twin_any (w1.heap.size + 1) w1.heap.size [] (weight []) clk rm wr.drew ⟨hfsW.fb, hfsW.mp, hfsW.nodes, hfsW.rds, hfsW.srt, hfsW.keys⟩ (by simp) (fun e he => by cases he)
    go_wp2_with fail
    refine q.mono ?_
    rintro r w5 ⟨G, M', L', rfl, hf5, ho5, hn5, hb5⟩
    go_wp2
    go_ret2
    rw [hnew]
    exact plAt_ok (L := []) hB2.drew hb5 hf5 ho5 hn5 (by show (0 : Int) ≤ rm; omega) h4 h1 (by simp)
/-- planted -/
theorem planted_any (B : Nat) (E : Addr) (v : Value) (ns : List Nv) (clk rm : Int) (w : World) (h : Nodes w v ns) (hG : Glo B w E) (hB : B ≤ w.heap.size) (hps : ∀ n ∈ ns, n.path.length ≤ 400000) :
    Calls Tryz.prog 21 #[.agg #[v, .int .i64 clk, .int .i64 rm]] w fun r w' => PlAt E clk rm w r w' (newR ns clk rm) := by
  cases hl : lenR ns with
  | no k =>
    have e := lenR_no (ns := ns) (by rw [hl]; simp)
    have hn : newR ns clk rm = .inl (.no 2) := by unfold newR; rw [e]
    rw [hn]
    exact planted_len E v ns clk rm w h e
  | nothing => have e := lenR_no (ns := ns) (by rw [hl]; simp); rw [hl] at e; cases e
  | ok =>
    by_cases ho : okTree clk rm
    · obtain ⟨h1, h2⟩ := lenR_ok hl
      rcases h with ⟨⟨sa, sc, rfl⟩, rfl⟩ | ⟨g, o, cap, rfl, h3, h4, h5⟩
      · exact planted_nil E sa sc clk rm w ho
      · exact planted_row B E g o cap ns clk rm w h4 h5 hG hB hps hl h1 h2 h3 ho
    · have hn : newR ns clk rm = .inl (.no 1) := by unfold newR; rw [hl]; simp only [if_neg ho]
      rw [hn]
      exact planted_arg E v ns clk rm w h hl ho
/-- behind New: a number, and a file system -/
def NewAt (clk rm : Int) (w : World) (r : Ending) (w' : World) (o : Er ⊕ Tr) : Prop :=
  Below w.heap.size w w' ∧ match o with
  | .inl k => r = .returned (.tuple #[.pointer none, .int .i64 (k.num : Nat)])
  | .inr T => ∃ G, r = .returned (.tuple #[.pointer (some ⟨G, 0, none⟩), .int .i64 0]) ∧ IsFs w' (fun i => w.heap.size ≤ i) G T clk rm
theorem IsFs.mono {w : World} {S S' : Nat → Prop} {A : Nat} {T : List (Bs × Nd)} {clk rm : Int} (h : IsFs w S A T clk rm) (hs : ∀ i, S i → S' i) : IsFs w S' A T clk rm := by
  obtain ⟨⟨M, L, h1, h2, h3⟩, a, b, c, d⟩ := h
  exact ⟨⟨M, L, h1, h2.mono hs, h3⟩, a, b, c, d⟩
set_option maxHeartbeats 1000000 in
theorem New_any (B : Nat) (E : Addr) (v : Value) (ns : List Nv) (clk rm : Int) (w : World) (h : Nodes w v ns) (hG : Glo B w E) (hB : B ≤ w.heap.size) (hps : ∀ n ∈ ns, n.path.length ≤ 400000) :
    Calls Tryz.prog 7 #[.agg #[v, .int .i64 clk, .int .i64 rm]] w fun r w' => NewAt clk rm w r w' (newR ns clk rm) := by
  have hb0 : Below w.heap.size w (w.alloc (.cells #[v, .int .i64 clk, .int .i64 rm] 24)) := (Below.refl _ _).alloc (Nat.le_refl _) _
  have q := planted_any B E v ns clk rm _ (h.below hb0) (hG.keep (hb0.mono hB)) (Nat.le_trans hB hb0.size) hps
  obtain ⟨a, cap, rfl⟩ := h.len
  generalize newR ns clk rm = o at q
  clear h hps
  generalize ns.length = n at *
  cases o with
  | inl k =>
    go_enter Tryz.func7, Tryz.ntmps7
    go_wp2_with fail
    refine q.mono ?_
    rintro r w1 ⟨hb1, v, rfl, hv, hk⟩
    have hB1 := hb0.trans (hb1.mono hb0.size)
    go_wp2_with fail
    refine (number_any B E v k w1 (hG.keep (hB1.mono hB)) hv).mono ?_
    rintro r w2 ⟨rfl, hb2⟩
    go_wp2
    go_ret2
    exact ⟨hB1.trans (hb2.mono hB1.size), rfl⟩
  | inr T =>
    go_enter Tryz.func7, Tryz.ntmps7
    go_wp2_with fail
    refine q.mono ?_
    rintro r w1 ⟨hb1, G, rfl, hf⟩
    have hB1 := hb0.trans (hb1.mono hb0.size)
    go_wp2_with fail
    refine (number_any B E .nilIface .ok w1 (hG.keep (hB1.mono hB)) rfl).mono ?_
    rintro r w2 ⟨rfl, hb2⟩
    go_wp2
    go_ret2
    exact ⟨hB1.trans (hb2.mono hB1.size), G, rfl, (hf.below hb2).mono fun i hi => Nat.le_trans hb0.size hi⟩
end Go.Proofs.YtabmnkddmdffkaaGreatDoor
