import Derived.Test.YtabmnkddmdffkaaGreatDoorAPlantG
namespace Go.Proofs.YtabmnkddmdffkaaGreatDoor
open Go.RowKit Go.Maps
def upDir : Lk En → Bool
 | .rt => true
 | .is e => e.nd.dir
 | _ => false
def fitB1 (clk : Int) (n : Nv) : Bool := valid n.path && (decide (0 ≤ n.nd.time) && (decide (n.nd.time ≤ clk) && !(n.nd.dir && decide (0 < n.nd.data.length))))
def fitB (L : Ents) (clk : Int) (n : Nv) : Bool := fitB1 clk n && upDir (lookV L (parent n.path))
structure FiC (b A : Nat) (s : ByteArray) (d : Bool) (t : Int) (dv : Value) (clk : Int) (w : World) : Prop where
 c0 : w.cell? ⟨b, 0, none⟩ = some (.string s)
 c1 : w.cell? ⟨b, 1, none⟩ = some (.bool d)
 c2 : w.cell? ⟨b, 2, none⟩ = some (.int .i64 t)
 c3 : w.cell? ⟨b, 3, none⟩ = some dv
 ca : w.cell? ⟨A, 2, none⟩ = some (.int .i64 clk)
theorem FiC.below {b A : Nat} {s : ByteArray} {d : Bool} {t : Int} {dv : Value} {clk : Int} {w w' : World} (h : FiC b A s d t dv clk w) (hb : Below w.heap.size w w') (h1 : b < w.heap.size) (h2 : A < w.heap.size) : FiC b A s d t dv clk w' :=
 ⟨(hb.cell (p := ⟨b, 0, none⟩) h1).trans h.c0, (hb.cell (p := ⟨b, 1, none⟩) h1).trans h.c1, (hb.cell (p := ⟨b, 2, none⟩) h1).trans h.c2, (hb.cell (p := ⟨b, 3, none⟩) h1).trans h.c3, (hb.cell (p := ⟨A, 2, none⟩) h2).trans h.ca⟩
theorem parent_len (l : Bs) : (parent l).length ≤ l.length + 1 := by
 unfold parent
 rw [List.dropLast_eq_take]
 exact Nat.le_trans (sl_take_len _ _) (kpt_tw l)
set_option maxRecDepth 100000 in
set_option maxHeartbeats 4000000 in
theorem fits_no1 (A : Nat) (n : Nv) (clk : Int) (w : World) (cA : w.cell? ⟨A, 2, none⟩ = some (.int .i64 clk)) (hA : A < w.heap.size) (hp : n.path.length ≤ 400000) (hd : ∃ a cap, n.dv = .slice a n.nd.data.length cap) (hv : valid n.path = false) :
  Calls Tryz.prog 49 #[.pointer (some ⟨A, 0, none⟩), .agg #[.string (mk n.path), .bool n.nd.dir, .int .i64 n.nd.time, n.dv]] w fun r w' => r = .returned (.bool false) ∧ Below w.heap.size w w' := by
 obtain ⟨da, dc, hdv⟩ := hd
 rw [hdv]
 have q1 := fun (w : World) => valid_any (mk n.path) w (by rw [mk_size]; omega)
 rw [tl_mk, hv] at q1
 generalize n.nd.dir = d at *
 generalize n.nd.time = t at *
 generalize (n.nd.data.length : Nat) = ln at *
 clear hdv
 go_enter Tryz.func49, Tryz.ntmps49
 go_wp2
 have hb1 : Below w.heap.size w (w.alloc (.cells #[.string (mk n.path), .bool d, .int .i64 t, .slice da ln dc] 60)) := (Below.refl _ _).alloc (Nat.le_refl _) _
 obtain ⟨w1, hw1⟩ : ∃ w1, w1 = w.alloc (.cells #[.string (mk n.path), .bool d, .int .i64 t, .slice da ln dc] 60) := ⟨_, rfl⟩
 have hs1 : w1.heap.size = w.heap.size + 1 := by rw [hw1]; simp
 have hbk : w1.heap[w.heap.size]? = some (.cells #[.string (mk n.path), .bool d, .int .i64 t, .slice da ln dc] 60 (0, 0)) := by rw [hw1]; exact alloc_new _ _
 rw [← hw1] at hb1
 have hFi : FiC w.heap.size A (mk n.path) d t (.slice da ln dc) clk w1.drew :=
  ⟨by show w1.cell? _ = _; rw [Lib.cell_of_heap hbk]; rfl, by show w1.cell? _ = _; rw [Lib.cell_of_heap hbk]; rfl, by show w1.cell? _ = _; rw [Lib.cell_of_heap hbk]; rfl, by show w1.cell? _ = _; rw [Lib.cell_of_heap hbk]; rfl, (hb1.cell (p := ⟨A, 2, none⟩) hA).trans cA⟩
 rw [← hw1]
 clear hw1
 refine wp_region_class (C := FiC w.heap.size A (mk n.path) d t (.slice da ln dc) clk) (by kernel_rfl) ?_
 (refine wpAnyC_take (i := 0) (v := ?_) hFi rfl (by kernel_rfl) (by kernel_rfl) (by kernel_rfl) (fun _ _ _ h => h) (Or.inl ⟨by kernel_rfl, ?_⟩) ?_; rotate_left; (intro w hc; have k0 := hc.c0; have k1 := hc.c1; have k2 := hc.c2; have k3 := hc.c3; have kg := hc.ca; clear hc; go_simp; try with_reducible rfl))
 (refine wpAnyC_take (i := 1) (v := ?_) hFi rfl (by kernel_rfl) (by kernel_rfl) (by kernel_rfl) (fun _ _ _ h => h) (Or.inl ⟨by kernel_rfl, ?_⟩) ?_; rotate_left; (intro w hc; have k0 := hc.c0; have k1 := hc.c1; have k2 := hc.c2; have k3 := hc.c3; have kg := hc.ca; clear hc; go_simp; try with_reducible rfl))
 refine wpAnyC_one (i := 2) (by kernel_rfl) (wpOp_wanted rfl (by rfl) ?_)
 go_simp
 refine (q1 _).mono ?_
 rintro e w2 ⟨rfl, hb2⟩
 dsimp only
 have hFi2 := hFi.below hb2 (by show w.heap.size < w1.heap.size; omega) (by show A < w1.heap.size; omega)
 have hB2 : Below w.heap.size w w2 := hb1.drew.trans (hb2.mono (by show w.heap.size ≤ w1.heap.size; omega))
 refine ⟨hFi2, ?_⟩
 (refine wpAnyC_take (i := 3) (v := ?_) hFi2 rfl (by kernel_rfl) (by kernel_rfl) (by kernel_rfl) (fun _ _ _ h => h) (Or.inl ⟨by kernel_rfl, ?_⟩) ?_; rotate_left; (intro w hc; have k0 := hc.c0; have k1 := hc.c1; have k2 := hc.c2; have k3 := hc.c3; have kg := hc.ca; clear hc; go_simp; try with_reducible rfl))
 (refine wpAnyC_take (i := 4) (v := ?_) hFi2 rfl (by kernel_rfl) (by kernel_rfl) (by kernel_rfl) (fun _ _ _ h => h) (Or.inl ⟨by kernel_rfl, ?_⟩) ?_; rotate_left; (intro w hc; have k0 := hc.c0; have k1 := hc.c1; have k2 := hc.c2; have k3 := hc.c3; have kg := hc.ca; clear hc; go_simp; try with_reducible rfl))
 refine wpAnyC_take (i := 5) (v := undef) hFi2 rfl (by kernel_rfl) (by kernel_rfl) (by kernel_rfl) (fun _ _ _ h => h) (Or.inr ⟨by kernel_rfl, rfl⟩) ?_
 refine wpAnyC_take (i := 6) (v := undef) hFi2 rfl (by kernel_rfl) (by kernel_rfl) (by kernel_rfl) (fun _ _ _ h => h) (Or.inr ⟨by kernel_rfl, rfl⟩) ?_
 refine wpAnyC_take (i := 7) (v := undef) hFi2 rfl (by kernel_rfl) (by kernel_rfl) (by kernel_rfl) (fun _ _ _ h => h) (Or.inr ⟨by kernel_rfl, rfl⟩) ?_
 (refine wpAnyC_take (i := 8) (v := ?_) hFi2 rfl (by kernel_rfl) (by kernel_rfl) (by kernel_rfl) (fun _ _ _ h => h) (Or.inl ⟨by kernel_rfl, ?_⟩) ?_; rotate_left; (intro w hc; have k0 := hc.c0; have k1 := hc.c1; have k2 := hc.c2; have k3 := hc.c3; have kg := hc.ca; clear hc; go_simp; try with_reducible rfl))
 (refine wpAnyC_take (i := 9) (v := ?_) hFi2 rfl (by kernel_rfl) (by kernel_rfl) (by kernel_rfl) (fun _ _ _ h => h) (Or.inl ⟨by kernel_rfl, ?_⟩) ?_; rotate_left; (intro w hc; have k0 := hc.c0; have k1 := hc.c1; have k2 := hc.c2; have k3 := hc.c3; have kg := hc.ca; clear hc; go_simp; try with_reducible rfl))
 go_simp
 refine wpAnyC_take (i := 10) (v := undef) hFi2 rfl (by kernel_rfl) (by kernel_rfl) (by kernel_rfl) (fun _ _ _ h => h) (Or.inr ⟨by kernel_rfl, rfl⟩) ?_
 refine wpAnyC_take (i := 11) (v := undef) hFi2 rfl (by kernel_rfl) (by kernel_rfl) (by kernel_rfl) (fun _ _ _ h => h) (Or.inr ⟨by kernel_rfl, rfl⟩) ?_
 refine wpAnyC_take (i := 12) (v := undef) hFi2 rfl (by kernel_rfl) (by kernel_rfl) (by kernel_rfl) (fun _ _ _ h => h) (Or.inr ⟨by kernel_rfl, rfl⟩) ?_
 refine wpAnyC_take (i := 13) (v := undef) hFi2 rfl (by kernel_rfl) (by kernel_rfl) (by kernel_rfl) (fun _ _ _ h => h) (Or.inr ⟨by kernel_rfl, rfl⟩) ?_
 refine wpAnyC_take (i := 14) (v := undef) hFi2 rfl (by kernel_rfl) (by kernel_rfl) (by kernel_rfl) (fun _ _ _ h => h) (Or.inr ⟨by kernel_rfl, rfl⟩) ?_
 refine wpAnyC_take (i := 15) (v := undef) hFi2 rfl (by kernel_rfl) (by kernel_rfl) (by kernel_rfl) (fun _ _ _ h => h) (Or.inr ⟨by kernel_rfl, rfl⟩) ?_
 refine wpAnyC_take (i := 16) (v := undef) hFi2 rfl (by kernel_rfl) (by kernel_rfl) (by kernel_rfl) (fun _ _ _ h => h) (Or.inr ⟨by kernel_rfl, rfl⟩) ?_
 go_simp
 (refine wpAnyC_take (i := 17) (v := ?_) hFi2 rfl (by kernel_rfl) (by kernel_rfl) (by kernel_rfl) (fun _ _ _ h => h) (Or.inl ⟨by kernel_rfl, ?_⟩) ?_; rotate_left; (intro w hc; have k0 := hc.c0; have k1 := hc.c1; have k2 := hc.c2; have k3 := hc.c3; have kg := hc.ca; clear hc; go_simp; try with_reducible rfl))
 (refine wpAnyC_take (i := 18) (v := ?_) hFi2 rfl (by kernel_rfl) (by kernel_rfl) (by kernel_rfl) (fun _ _ _ h => h) (Or.inl ⟨by kernel_rfl, ?_⟩) ?_; rotate_left; (intro w hc; have k0 := hc.c0; have k1 := hc.c1; have k2 := hc.c2; have k3 := hc.c3; have kg := hc.ca; clear hc; go_simp; try with_reducible rfl))
 go_simp
 refine wpAnyC_take (i := 19) (v := undef) hFi2 rfl (by kernel_rfl) (by kernel_rfl) (by kernel_rfl) (fun _ _ _ h => h) (Or.inr ⟨by kernel_rfl, rfl⟩) ?_
 refine wpAnyC_take (i := 20) (v := undef) hFi2 rfl (by kernel_rfl) (by kernel_rfl) (by kernel_rfl) (fun _ _ _ h => h) (Or.inr ⟨by kernel_rfl, rfl⟩) ?_
 refine wpAnyC_take (i := 21) (v := undef) hFi2 rfl (by kernel_rfl) (by kernel_rfl) (by kernel_rfl) (fun _ _ _ h => h) (Or.inr ⟨by kernel_rfl, rfl⟩) ?_
 go_simp
 refine wpAnyC_take (i := 22) (v := undef) hFi2 rfl (by kernel_rfl) (by kernel_rfl) (by kernel_rfl) (fun _ _ _ h => h) (Or.inr ⟨by kernel_rfl, rfl⟩) ?_
 refine wpAnyC_take (i := 23) (v := undef) hFi2 rfl (by kernel_rfl) (by kernel_rfl) (by kernel_rfl) (fun _ _ _ h => h) (Or.inr ⟨by kernel_rfl, rfl⟩) ?_
 refine wpAnyC_take (i := 24) (v := undef) hFi2 rfl (by kernel_rfl) (by kernel_rfl) (by kernel_rfl) (fun _ _ _ h => h) (Or.inr ⟨by kernel_rfl, rfl⟩) ?_
 refine wpAnyC_take (i := 25) (v := undef) hFi2 rfl (by kernel_rfl) (by kernel_rfl) (by kernel_rfl) (fun _ _ _ h => h) (Or.inr ⟨by kernel_rfl, rfl⟩) ?_
 go_simp
 refine wpAnyC_take (i := 26) (v := undef) hFi2 rfl (by kernel_rfl) (by kernel_rfl) (by kernel_rfl) (fun _ _ _ h => h) (Or.inr ⟨by kernel_rfl, rfl⟩) ?_
 go_simp
 (refine wpAnyC_take (i := 27) (v := ?_) hFi2 rfl (by kernel_rfl) (by kernel_rfl) (by kernel_rfl) (fun _ _ _ h => h) (Or.inl ⟨by kernel_rfl, ?_⟩) ?_; rotate_left; (intro w hc; have k0 := hc.c0; have k1 := hc.c1; have k2 := hc.c2; have k3 := hc.c3; have kg := hc.ca; clear hc; go_simp; try with_reducible rfl))
 go_simp
 refine wpAnyC_done (by kernel_rfl) ?_ _
 go_wp2
 go_ret
 exact ⟨rfl, hB2⟩
set_option maxRecDepth 100000 in
set_option maxHeartbeats 4000000 in
theorem fits_no2 (A : Nat) (n : Nv) (clk : Int) (w : World) (cA : w.cell? ⟨A, 2, none⟩ = some (.int .i64 clk)) (hA : A < w.heap.size) (hp : n.path.length ≤ 400000) (hd : ∃ a cap, n.dv = .slice a n.nd.data.length cap) (hv : valid n.path = true) (ht : n.nd.time < 0) :
  Calls Tryz.prog 49 #[.pointer (some ⟨A, 0, none⟩), .agg #[.string (mk n.path), .bool n.nd.dir, .int .i64 n.nd.time, n.dv]] w fun r w' => r = .returned (.bool false) ∧ Below w.heap.size w w' := by
 obtain ⟨da, dc, hdv⟩ := hd
 rw [hdv]
 have q1 := fun (w : World) => valid_any (mk n.path) w (by rw [mk_size]; omega)
 rw [tl_mk, hv] at q1
 generalize n.nd.dir = d at *
 generalize n.nd.time = t at *
 generalize (n.nd.data.length : Nat) = ln at *
 clear hdv
 go_enter Tryz.func49, Tryz.ntmps49
 go_wp2
 have hb1 : Below w.heap.size w (w.alloc (.cells #[.string (mk n.path), .bool d, .int .i64 t, .slice da ln dc] 60)) := (Below.refl _ _).alloc (Nat.le_refl _) _
 obtain ⟨w1, hw1⟩ : ∃ w1, w1 = w.alloc (.cells #[.string (mk n.path), .bool d, .int .i64 t, .slice da ln dc] 60) := ⟨_, rfl⟩
 have hs1 : w1.heap.size = w.heap.size + 1 := by rw [hw1]; simp
 have hbk : w1.heap[w.heap.size]? = some (.cells #[.string (mk n.path), .bool d, .int .i64 t, .slice da ln dc] 60 (0, 0)) := by rw [hw1]; exact alloc_new _ _
 rw [← hw1] at hb1
 have hFi : FiC w.heap.size A (mk n.path) d t (.slice da ln dc) clk w1.drew :=
  ⟨by show w1.cell? _ = _; rw [Lib.cell_of_heap hbk]; rfl, by show w1.cell? _ = _; rw [Lib.cell_of_heap hbk]; rfl, by show w1.cell? _ = _; rw [Lib.cell_of_heap hbk]; rfl, by show w1.cell? _ = _; rw [Lib.cell_of_heap hbk]; rfl, (hb1.cell (p := ⟨A, 2, none⟩) hA).trans cA⟩
 rw [← hw1]
 clear hw1
 refine wp_region_class (C := FiC w.heap.size A (mk n.path) d t (.slice da ln dc) clk) (by kernel_rfl) ?_
 (refine wpAnyC_take (i := 0) (v := ?_) hFi rfl (by kernel_rfl) (by kernel_rfl) (by kernel_rfl) (fun _ _ _ h => h) (Or.inl ⟨by kernel_rfl, ?_⟩) ?_; rotate_left; (intro w hc; have k0 := hc.c0; have k1 := hc.c1; have k2 := hc.c2; have k3 := hc.c3; have kg := hc.ca; clear hc; go_simp; try with_reducible rfl))
 (refine wpAnyC_take (i := 1) (v := ?_) hFi rfl (by kernel_rfl) (by kernel_rfl) (by kernel_rfl) (fun _ _ _ h => h) (Or.inl ⟨by kernel_rfl, ?_⟩) ?_; rotate_left; (intro w hc; have k0 := hc.c0; have k1 := hc.c1; have k2 := hc.c2; have k3 := hc.c3; have kg := hc.ca; clear hc; go_simp; try with_reducible rfl))
 refine wpAnyC_one (i := 2) (by kernel_rfl) (wpOp_wanted rfl (by rfl) ?_)
 go_simp
 refine (q1 _).mono ?_
 rintro e w2 ⟨rfl, hb2⟩
 dsimp only
 have hFi2 := hFi.below hb2 (by show w.heap.size < w1.heap.size; omega) (by show A < w1.heap.size; omega)
 have hB2 : Below w.heap.size w w2 := hb1.drew.trans (hb2.mono (by show w.heap.size ≤ w1.heap.size; omega))
 refine ⟨hFi2, ?_⟩
 (refine wpAnyC_take (i := 3) (v := ?_) hFi2 rfl (by kernel_rfl) (by kernel_rfl) (by kernel_rfl) (fun _ _ _ h => h) (Or.inl ⟨by kernel_rfl, ?_⟩) ?_; rotate_left; (intro w hc; have k0 := hc.c0; have k1 := hc.c1; have k2 := hc.c2; have k3 := hc.c3; have kg := hc.ca; clear hc; go_simp; try with_reducible rfl))
 (refine wpAnyC_take (i := 4) (v := ?_) hFi2 rfl (by kernel_rfl) (by kernel_rfl) (by kernel_rfl) (fun _ _ _ h => h) (Or.inl ⟨by kernel_rfl, ?_⟩) ?_; rotate_left; (intro w hc; have k0 := hc.c0; have k1 := hc.c1; have k2 := hc.c2; have k3 := hc.c3; have kg := hc.ca; clear hc; go_simp; try with_reducible rfl))
 (refine wpAnyC_take (i := 5) (v := ?_) hFi2 rfl (by kernel_rfl) (by kernel_rfl) (by kernel_rfl) (fun _ _ _ h => h) (Or.inl ⟨by kernel_rfl, ?_⟩) ?_; rotate_left; (intro w hc; have k0 := hc.c0; have k1 := hc.c1; have k2 := hc.c2; have k3 := hc.c3; have kg := hc.ca; clear hc; go_simp; try with_reducible rfl))
 (refine wpAnyC_take (i := 6) (v := ?_) hFi2 rfl (by kernel_rfl) (by kernel_rfl) (by kernel_rfl) (fun _ _ _ h => h) (Or.inl ⟨by kernel_rfl, ?_⟩) ?_; rotate_left; (intro w hc; have k0 := hc.c0; have k1 := hc.c1; have k2 := hc.c2; have k3 := hc.c3; have kg := hc.ca; clear hc; go_simp; try with_reducible rfl))
 (refine wpAnyC_take (i := 7) (v := ?_) hFi2 rfl (by kernel_rfl) (by kernel_rfl) (by kernel_rfl) (fun _ _ _ h => h) (Or.inl ⟨by kernel_rfl, ?_⟩) ?_; rotate_left; (intro w hc; have k0 := hc.c0; have k1 := hc.c1; have k2 := hc.c2; have k3 := hc.c3; have kg := hc.ca; clear hc; go_simp; try with_reducible rfl))
 (refine wpAnyC_take (i := 8) (v := ?_) hFi2 rfl (by kernel_rfl) (by kernel_rfl) (by kernel_rfl) (fun _ _ _ h => h) (Or.inl ⟨by kernel_rfl, ?_⟩) ?_; rotate_left; (intro w hc; have k0 := hc.c0; have k1 := hc.c1; have k2 := hc.c2; have k3 := hc.c3; have kg := hc.ca; clear hc; go_simp; try with_reducible rfl))
 (refine wpAnyC_take (i := 9) (v := ?_) hFi2 rfl (by kernel_rfl) (by kernel_rfl) (by kernel_rfl) (fun _ _ _ h => h) (Or.inl ⟨by kernel_rfl, ?_⟩) ?_; rotate_left; (intro w hc; have k0 := hc.c0; have k1 := hc.c1; have k2 := hc.c2; have k3 := hc.c3; have kg := hc.ca; clear hc; go_simp; try with_reducible rfl))
 go_simp
 refine wpAnyC_take (i := 10) (v := undef) hFi2 rfl (by kernel_rfl) (by kernel_rfl) (by kernel_rfl) (fun _ _ _ h => h) (Or.inr ⟨by kernel_rfl, rfl⟩) ?_
 refine wpAnyC_take (i := 11) (v := undef) hFi2 rfl (by kernel_rfl) (by kernel_rfl) (by kernel_rfl) (fun _ _ _ h => h) (Or.inr ⟨by kernel_rfl, rfl⟩) ?_
 refine wpAnyC_take (i := 12) (v := undef) hFi2 rfl (by kernel_rfl) (by kernel_rfl) (by kernel_rfl) (fun _ _ _ h => h) (Or.inr ⟨by kernel_rfl, rfl⟩) ?_
 refine wpAnyC_take (i := 13) (v := undef) hFi2 rfl (by kernel_rfl) (by kernel_rfl) (by kernel_rfl) (fun _ _ _ h => h) (Or.inr ⟨by kernel_rfl, rfl⟩) ?_
 refine wpAnyC_take (i := 14) (v := undef) hFi2 rfl (by kernel_rfl) (by kernel_rfl) (by kernel_rfl) (fun _ _ _ h => h) (Or.inr ⟨by kernel_rfl, rfl⟩) ?_
 refine wpAnyC_take (i := 15) (v := undef) hFi2 rfl (by kernel_rfl) (by kernel_rfl) (by kernel_rfl) (fun _ _ _ h => h) (Or.inr ⟨by kernel_rfl, rfl⟩) ?_
 refine wpAnyC_take (i := 16) (v := undef) hFi2 rfl (by kernel_rfl) (by kernel_rfl) (by kernel_rfl) (fun _ _ _ h => h) (Or.inr ⟨by kernel_rfl, rfl⟩) ?_
 go_simp
 (refine wpAnyC_take (i := 17) (v := ?_) hFi2 rfl (by kernel_rfl) (by kernel_rfl) (by kernel_rfl) (fun _ _ _ h => h) (Or.inl ⟨by kernel_rfl, ?_⟩) ?_; rotate_left; (intro w hc; have k0 := hc.c0; have k1 := hc.c1; have k2 := hc.c2; have k3 := hc.c3; have kg := hc.ca; clear hc; go_simp; try with_reducible rfl))
 (refine wpAnyC_take (i := 18) (v := ?_) hFi2 rfl (by kernel_rfl) (by kernel_rfl) (by kernel_rfl) (fun _ _ _ h => h) (Or.inl ⟨by kernel_rfl, ?_⟩) ?_; rotate_left; (intro w hc; have k0 := hc.c0; have k1 := hc.c1; have k2 := hc.c2; have k3 := hc.c3; have kg := hc.ca; clear hc; go_simp; try with_reducible rfl))
 go_simp
 refine wpAnyC_take (i := 19) (v := undef) hFi2 rfl (by kernel_rfl) (by kernel_rfl) (by kernel_rfl) (fun _ _ _ h => h) (Or.inr ⟨by kernel_rfl, rfl⟩) ?_
 refine wpAnyC_take (i := 20) (v := undef) hFi2 rfl (by kernel_rfl) (by kernel_rfl) (by kernel_rfl) (fun _ _ _ h => h) (Or.inr ⟨by kernel_rfl, rfl⟩) ?_
 refine wpAnyC_take (i := 21) (v := undef) hFi2 rfl (by kernel_rfl) (by kernel_rfl) (by kernel_rfl) (fun _ _ _ h => h) (Or.inr ⟨by kernel_rfl, rfl⟩) ?_
 go_simp
 refine wpAnyC_take (i := 22) (v := undef) hFi2 rfl (by kernel_rfl) (by kernel_rfl) (by kernel_rfl) (fun _ _ _ h => h) (Or.inr ⟨by kernel_rfl, rfl⟩) ?_
 refine wpAnyC_take (i := 23) (v := undef) hFi2 rfl (by kernel_rfl) (by kernel_rfl) (by kernel_rfl) (fun _ _ _ h => h) (Or.inr ⟨by kernel_rfl, rfl⟩) ?_
 refine wpAnyC_take (i := 24) (v := undef) hFi2 rfl (by kernel_rfl) (by kernel_rfl) (by kernel_rfl) (fun _ _ _ h => h) (Or.inr ⟨by kernel_rfl, rfl⟩) ?_
 refine wpAnyC_take (i := 25) (v := undef) hFi2 rfl (by kernel_rfl) (by kernel_rfl) (by kernel_rfl) (fun _ _ _ h => h) (Or.inr ⟨by kernel_rfl, rfl⟩) ?_
 go_simp
 refine wpAnyC_take (i := 26) (v := undef) hFi2 rfl (by kernel_rfl) (by kernel_rfl) (by kernel_rfl) (fun _ _ _ h => h) (Or.inr ⟨by kernel_rfl, rfl⟩) ?_
 go_simp
 (refine wpAnyC_take (i := 27) (v := ?_) hFi2 rfl (by kernel_rfl) (by kernel_rfl) (by kernel_rfl) (fun _ _ _ h => h) (Or.inl ⟨by kernel_rfl, ?_⟩) ?_; rotate_left; (intro w hc; have k0 := hc.c0; have k1 := hc.c1; have k2 := hc.c2; have k3 := hc.c3; have kg := hc.ca; clear hc; go_simp; try with_reducible rfl))
 go_simp
 refine wpAnyC_done (by kernel_rfl) ?_ _
 go_wp2
 go_ret
 exact ⟨rfl, hB2⟩
set_option maxRecDepth 100000 in
set_option maxHeartbeats 4000000 in
theorem fits_no3 (A : Nat) (n : Nv) (clk : Int) (w : World) (cA : w.cell? ⟨A, 2, none⟩ = some (.int .i64 clk)) (hA : A < w.heap.size) (hp : n.path.length ≤ 400000) (hd : ∃ a cap, n.dv = .slice a n.nd.data.length cap) (hv : valid n.path = true) (ht : ¬ n.nd.time < 0) (hc : clk < n.nd.time) :
  Calls Tryz.prog 49 #[.pointer (some ⟨A, 0, none⟩), .agg #[.string (mk n.path), .bool n.nd.dir, .int .i64 n.nd.time, n.dv]] w fun r w' => r = .returned (.bool false) ∧ Below w.heap.size w w' := by
 obtain ⟨da, dc, hdv⟩ := hd
 rw [hdv]
 have q1 := fun (w : World) => valid_any (mk n.path) w (by rw [mk_size]; omega)
 rw [tl_mk, hv] at q1
 generalize n.nd.dir = d at *
 generalize n.nd.time = t at *
 generalize (n.nd.data.length : Nat) = ln at *
 clear hdv
 go_enter Tryz.func49, Tryz.ntmps49
 go_wp2
 have hb1 : Below w.heap.size w (w.alloc (.cells #[.string (mk n.path), .bool d, .int .i64 t, .slice da ln dc] 60)) := (Below.refl _ _).alloc (Nat.le_refl _) _
 obtain ⟨w1, hw1⟩ : ∃ w1, w1 = w.alloc (.cells #[.string (mk n.path), .bool d, .int .i64 t, .slice da ln dc] 60) := ⟨_, rfl⟩
 have hs1 : w1.heap.size = w.heap.size + 1 := by rw [hw1]; simp
 have hbk : w1.heap[w.heap.size]? = some (.cells #[.string (mk n.path), .bool d, .int .i64 t, .slice da ln dc] 60 (0, 0)) := by rw [hw1]; exact alloc_new _ _
 rw [← hw1] at hb1
 have hFi : FiC w.heap.size A (mk n.path) d t (.slice da ln dc) clk w1.drew :=
  ⟨by show w1.cell? _ = _; rw [Lib.cell_of_heap hbk]; rfl, by show w1.cell? _ = _; rw [Lib.cell_of_heap hbk]; rfl, by show w1.cell? _ = _; rw [Lib.cell_of_heap hbk]; rfl, by show w1.cell? _ = _; rw [Lib.cell_of_heap hbk]; rfl, (hb1.cell (p := ⟨A, 2, none⟩) hA).trans cA⟩
 rw [← hw1]
 clear hw1
 refine wp_region_class (C := FiC w.heap.size A (mk n.path) d t (.slice da ln dc) clk) (by kernel_rfl) ?_
 (refine wpAnyC_take (i := 0) (v := ?_) hFi rfl (by kernel_rfl) (by kernel_rfl) (by kernel_rfl) (fun _ _ _ h => h) (Or.inl ⟨by kernel_rfl, ?_⟩) ?_; rotate_left; (intro w hc; have k0 := hc.c0; have k1 := hc.c1; have k2 := hc.c2; have k3 := hc.c3; have kg := hc.ca; clear hc; go_simp; try with_reducible rfl))
 (refine wpAnyC_take (i := 1) (v := ?_) hFi rfl (by kernel_rfl) (by kernel_rfl) (by kernel_rfl) (fun _ _ _ h => h) (Or.inl ⟨by kernel_rfl, ?_⟩) ?_; rotate_left; (intro w hc; have k0 := hc.c0; have k1 := hc.c1; have k2 := hc.c2; have k3 := hc.c3; have kg := hc.ca; clear hc; go_simp; try with_reducible rfl))
 refine wpAnyC_one (i := 2) (by kernel_rfl) (wpOp_wanted rfl (by rfl) ?_)
 go_simp
 refine (q1 _).mono ?_
 rintro e w2 ⟨rfl, hb2⟩
 dsimp only
 have hFi2 := hFi.below hb2 (by show w.heap.size < w1.heap.size; omega) (by show A < w1.heap.size; omega)
 have hB2 : Below w.heap.size w w2 := hb1.drew.trans (hb2.mono (by show w.heap.size ≤ w1.heap.size; omega))
 refine ⟨hFi2, ?_⟩
 have ht2 : decide (t < 0) = false := decide_eq_false (by omega)
 (refine wpAnyC_take (i := 3) (v := ?_) hFi2 rfl (by kernel_rfl) (by kernel_rfl) (by kernel_rfl) (fun _ _ _ h => h) (Or.inl ⟨by kernel_rfl, ?_⟩) ?_; rotate_left; (intro w hc; have k0 := hc.c0; have k1 := hc.c1; have k2 := hc.c2; have k3 := hc.c3; have kg := hc.ca; clear hc; go_simp; try with_reducible rfl))
 (refine wpAnyC_take (i := 4) (v := ?_) hFi2 rfl (by kernel_rfl) (by kernel_rfl) (by kernel_rfl) (fun _ _ _ h => h) (Or.inl ⟨by kernel_rfl, ?_⟩) ?_; rotate_left; (intro w hc; have k0 := hc.c0; have k1 := hc.c1; have k2 := hc.c2; have k3 := hc.c3; have kg := hc.ca; clear hc; go_simp; try with_reducible rfl))
 (refine wpAnyC_take (i := 5) (v := ?_) hFi2 rfl (by kernel_rfl) (by kernel_rfl) (by kernel_rfl) (fun _ _ _ h => h) (Or.inl ⟨by kernel_rfl, ?_⟩) ?_; rotate_left; (intro w hc; have k0 := hc.c0; have k1 := hc.c1; have k2 := hc.c2; have k3 := hc.c3; have kg := hc.ca; clear hc; go_simp; try with_reducible rfl))
 (refine wpAnyC_take (i := 6) (v := ?_) hFi2 rfl (by kernel_rfl) (by kernel_rfl) (by kernel_rfl) (fun _ _ _ h => h) (Or.inl ⟨by kernel_rfl, ?_⟩) ?_; rotate_left; (intro w hc; have k0 := hc.c0; have k1 := hc.c1; have k2 := hc.c2; have k3 := hc.c3; have kg := hc.ca; clear hc; go_simp; try with_reducible rfl))
 (refine wpAnyC_take (i := 7) (v := ?_) hFi2 rfl (by kernel_rfl) (by kernel_rfl) (by kernel_rfl) (fun _ _ _ h => h) (Or.inl ⟨by kernel_rfl, ?_⟩) ?_; rotate_left; (intro w hc; have k0 := hc.c0; have k1 := hc.c1; have k2 := hc.c2; have k3 := hc.c3; have kg := hc.ca; clear hc; go_simp; try with_reducible rfl))
 (refine wpAnyC_take (i := 8) (v := ?_) hFi2 rfl (by kernel_rfl) (by kernel_rfl) (by kernel_rfl) (fun _ _ _ h => h) (Or.inl ⟨by kernel_rfl, ?_⟩) ?_; rotate_left; (intro w hc; have k0 := hc.c0; have k1 := hc.c1; have k2 := hc.c2; have k3 := hc.c3; have kg := hc.ca; clear hc; go_simp; try with_reducible rfl))
 (refine wpAnyC_take (i := 9) (v := ?_) hFi2 rfl (by kernel_rfl) (by kernel_rfl) (by kernel_rfl) (fun _ _ _ h => h) (Or.inl ⟨by kernel_rfl, ?_⟩) ?_; rotate_left; (intro w hc; have k0 := hc.c0; have k1 := hc.c1; have k2 := hc.c2; have k3 := hc.c3; have kg := hc.ca; clear hc; go_simp; try with_reducible rfl))
 go_simp
 (refine wpAnyC_take (i := 10) (v := ?_) hFi2 rfl (by kernel_rfl) (by kernel_rfl) (by kernel_rfl) (fun _ _ _ h => h) (Or.inl ⟨by kernel_rfl, ?_⟩) ?_; rotate_left; (intro w hc; have k0 := hc.c0; have k1 := hc.c1; have k2 := hc.c2; have k3 := hc.c3; have kg := hc.ca; clear hc; go_simp; try with_reducible rfl))
 (refine wpAnyC_take (i := 11) (v := ?_) hFi2 rfl (by kernel_rfl) (by kernel_rfl) (by kernel_rfl) (fun _ _ _ h => h) (Or.inl ⟨by kernel_rfl, ?_⟩) ?_; rotate_left; (intro w hc; have k0 := hc.c0; have k1 := hc.c1; have k2 := hc.c2; have k3 := hc.c3; have kg := hc.ca; clear hc; go_simp; try with_reducible rfl))
 (refine wpAnyC_take (i := 12) (v := ?_) hFi2 rfl (by kernel_rfl) (by kernel_rfl) (by kernel_rfl) (fun _ _ _ h => h) (Or.inl ⟨by kernel_rfl, ?_⟩) ?_; rotate_left; (intro w hc; have k0 := hc.c0; have k1 := hc.c1; have k2 := hc.c2; have k3 := hc.c3; have kg := hc.ca; clear hc; go_simp; try with_reducible rfl))
 (refine wpAnyC_take (i := 13) (v := ?_) hFi2 rfl (by kernel_rfl) (by kernel_rfl) (by kernel_rfl) (fun _ _ _ h => h) (Or.inl ⟨by kernel_rfl, ?_⟩) ?_; rotate_left; (intro w hc; have k0 := hc.c0; have k1 := hc.c1; have k2 := hc.c2; have k3 := hc.c3; have kg := hc.ca; clear hc; go_simp; try with_reducible rfl))
 (refine wpAnyC_take (i := 14) (v := ?_) hFi2 rfl (by kernel_rfl) (by kernel_rfl) (by kernel_rfl) (fun _ _ _ h => h) (Or.inl ⟨by kernel_rfl, ?_⟩) ?_; rotate_left; (intro w hc; have k0 := hc.c0; have k1 := hc.c1; have k2 := hc.c2; have k3 := hc.c3; have kg := hc.ca; clear hc; go_simp; try with_reducible rfl))
 (refine wpAnyC_take (i := 15) (v := ?_) hFi2 rfl (by kernel_rfl) (by kernel_rfl) (by kernel_rfl) (fun _ _ _ h => h) (Or.inl ⟨by kernel_rfl, ?_⟩) ?_; rotate_left; (intro w hc; have k0 := hc.c0; have k1 := hc.c1; have k2 := hc.c2; have k3 := hc.c3; have kg := hc.ca; clear hc; go_simp; try with_reducible rfl))
 (refine wpAnyC_take (i := 16) (v := ?_) hFi2 rfl (by kernel_rfl) (by kernel_rfl) (by kernel_rfl) (fun _ _ _ h => h) (Or.inl ⟨by kernel_rfl, ?_⟩) ?_; rotate_left; (intro w hc; have k0 := hc.c0; have k1 := hc.c1; have k2 := hc.c2; have k3 := hc.c3; have kg := hc.ca; clear hc; go_simp; try with_reducible rfl))
 go_simp
 (refine wpAnyC_take (i := 17) (v := ?_) hFi2 rfl (by kernel_rfl) (by kernel_rfl) (by kernel_rfl) (fun _ _ _ h => h) (Or.inl ⟨by kernel_rfl, ?_⟩) ?_; rotate_left; (intro w hc; have k0 := hc.c0; have k1 := hc.c1; have k2 := hc.c2; have k3 := hc.c3; have kg := hc.ca; clear hc; go_simp; try with_reducible rfl))
 (refine wpAnyC_take (i := 18) (v := ?_) hFi2 rfl (by kernel_rfl) (by kernel_rfl) (by kernel_rfl) (fun _ _ _ h => h) (Or.inl ⟨by kernel_rfl, ?_⟩) ?_; rotate_left; (intro w hc; have k0 := hc.c0; have k1 := hc.c1; have k2 := hc.c2; have k3 := hc.c3; have kg := hc.ca; clear hc; go_simp; try with_reducible rfl))
 go_simp
 refine wpAnyC_take (i := 19) (v := undef) hFi2 rfl (by kernel_rfl) (by kernel_rfl) (by kernel_rfl) (fun _ _ _ h => h) (Or.inr ⟨by kernel_rfl, rfl⟩) ?_
 refine wpAnyC_take (i := 20) (v := undef) hFi2 rfl (by kernel_rfl) (by kernel_rfl) (by kernel_rfl) (fun _ _ _ h => h) (Or.inr ⟨by kernel_rfl, rfl⟩) ?_
 refine wpAnyC_take (i := 21) (v := undef) hFi2 rfl (by kernel_rfl) (by kernel_rfl) (by kernel_rfl) (fun _ _ _ h => h) (Or.inr ⟨by kernel_rfl, rfl⟩) ?_
 go_simp
 refine wpAnyC_take (i := 22) (v := undef) hFi2 rfl (by kernel_rfl) (by kernel_rfl) (by kernel_rfl) (fun _ _ _ h => h) (Or.inr ⟨by kernel_rfl, rfl⟩) ?_
 refine wpAnyC_take (i := 23) (v := undef) hFi2 rfl (by kernel_rfl) (by kernel_rfl) (by kernel_rfl) (fun _ _ _ h => h) (Or.inr ⟨by kernel_rfl, rfl⟩) ?_
 refine wpAnyC_take (i := 24) (v := undef) hFi2 rfl (by kernel_rfl) (by kernel_rfl) (by kernel_rfl) (fun _ _ _ h => h) (Or.inr ⟨by kernel_rfl, rfl⟩) ?_
 refine wpAnyC_take (i := 25) (v := undef) hFi2 rfl (by kernel_rfl) (by kernel_rfl) (by kernel_rfl) (fun _ _ _ h => h) (Or.inr ⟨by kernel_rfl, rfl⟩) ?_
 go_simp
 refine wpAnyC_take (i := 26) (v := undef) hFi2 rfl (by kernel_rfl) (by kernel_rfl) (by kernel_rfl) (fun _ _ _ h => h) (Or.inr ⟨by kernel_rfl, rfl⟩) ?_
 go_simp
 (refine wpAnyC_take (i := 27) (v := ?_) hFi2 rfl (by kernel_rfl) (by kernel_rfl) (by kernel_rfl) (fun _ _ _ h => h) (Or.inl ⟨by kernel_rfl, ?_⟩) ?_; rotate_left; (intro w hc; have k0 := hc.c0; have k1 := hc.c1; have k2 := hc.c2; have k3 := hc.c3; have kg := hc.ca; clear hc; go_simp; try with_reducible rfl))
 go_simp
 refine wpAnyC_done (by kernel_rfl) ?_ _
 go_wp2
 go_ret
 exact ⟨rfl, hB2⟩
set_option maxRecDepth 100000 in
set_option maxHeartbeats 4000000 in
theorem fits_no5 (A : Nat) (n : Nv) (clk : Int) (w : World) (cA : w.cell? ⟨A, 2, none⟩ = some (.int .i64 clk)) (hA : A < w.heap.size) (hp : n.path.length ≤ 400000) (hd : ∃ a cap, n.dv = .slice a n.nd.data.length cap) (hv : valid n.path = true) (ht : ¬ n.nd.time < 0) (hc : ¬ clk < n.nd.time) (hdir : n.nd.dir = true) (hln : 0 < n.nd.data.length) :
  Calls Tryz.prog 49 #[.pointer (some ⟨A, 0, none⟩), .agg #[.string (mk n.path), .bool n.nd.dir, .int .i64 n.nd.time, n.dv]] w fun r w' => r = .returned (.bool false) ∧ Below w.heap.size w w' := by
 obtain ⟨da, dc, hdv⟩ := hd
 rw [hdv]
 have q1 := fun (w : World) => valid_any (mk n.path) w (by rw [mk_size]; omega)
 rw [tl_mk, hv] at q1
 generalize n.nd.dir = d at *
 generalize n.nd.time = t at *
 generalize (n.nd.data.length : Nat) = ln at *
 clear hdv
 subst hdir
 have hln' : (0 : Int) < ln := by omega
 go_enter Tryz.func49, Tryz.ntmps49
 go_wp2
 have hb1 : Below w.heap.size w (w.alloc (.cells #[.string (mk n.path), .bool true, .int .i64 t, .slice da ln dc] 60)) := (Below.refl _ _).alloc (Nat.le_refl _) _
 obtain ⟨w1, hw1⟩ : ∃ w1, w1 = w.alloc (.cells #[.string (mk n.path), .bool true, .int .i64 t, .slice da ln dc] 60) := ⟨_, rfl⟩
 have hs1 : w1.heap.size = w.heap.size + 1 := by rw [hw1]; simp
 have hbk : w1.heap[w.heap.size]? = some (.cells #[.string (mk n.path), .bool true, .int .i64 t, .slice da ln dc] 60 (0, 0)) := by rw [hw1]; exact alloc_new _ _
 rw [← hw1] at hb1
 have hFi : FiC w.heap.size A (mk n.path) true t (.slice da ln dc) clk w1.drew :=
  ⟨by show w1.cell? _ = _; rw [Lib.cell_of_heap hbk]; rfl, by show w1.cell? _ = _; rw [Lib.cell_of_heap hbk]; rfl, by show w1.cell? _ = _; rw [Lib.cell_of_heap hbk]; rfl, by show w1.cell? _ = _; rw [Lib.cell_of_heap hbk]; rfl, (hb1.cell (p := ⟨A, 2, none⟩) hA).trans cA⟩
 rw [← hw1]
 clear hw1
 refine wp_region_class (C := FiC w.heap.size A (mk n.path) true t (.slice da ln dc) clk) (by kernel_rfl) ?_
 (refine wpAnyC_take (i := 0) (v := ?_) hFi rfl (by kernel_rfl) (by kernel_rfl) (by kernel_rfl) (fun _ _ _ h => h) (Or.inl ⟨by kernel_rfl, ?_⟩) ?_; rotate_left; (intro w hc; have k0 := hc.c0; have k1 := hc.c1; have k2 := hc.c2; have k3 := hc.c3; have kg := hc.ca; clear hc; go_simp; try with_reducible rfl))
 (refine wpAnyC_take (i := 1) (v := ?_) hFi rfl (by kernel_rfl) (by kernel_rfl) (by kernel_rfl) (fun _ _ _ h => h) (Or.inl ⟨by kernel_rfl, ?_⟩) ?_; rotate_left; (intro w hc; have k0 := hc.c0; have k1 := hc.c1; have k2 := hc.c2; have k3 := hc.c3; have kg := hc.ca; clear hc; go_simp; try with_reducible rfl))
 refine wpAnyC_one (i := 2) (by kernel_rfl) (wpOp_wanted rfl (by rfl) ?_)
 go_simp
 refine (q1 _).mono ?_
 rintro e w2 ⟨rfl, hb2⟩
 dsimp only
 have hFi2 := hFi.below hb2 (by show w.heap.size < w1.heap.size; omega) (by show A < w1.heap.size; omega)
 have hB2 : Below w.heap.size w w2 := hb1.drew.trans (hb2.mono (by show w.heap.size ≤ w1.heap.size; omega))
 refine ⟨hFi2, ?_⟩
 have ht2 : decide (t < 0) = false := decide_eq_false (by omega)
 have hc2 : decide (clk < t) = false := decide_eq_false (by omega)
 (refine wpAnyC_take (i := 3) (v := ?_) hFi2 rfl (by kernel_rfl) (by kernel_rfl) (by kernel_rfl) (fun _ _ _ h => h) (Or.inl ⟨by kernel_rfl, ?_⟩) ?_; rotate_left; (intro w hc; have k0 := hc.c0; have k1 := hc.c1; have k2 := hc.c2; have k3 := hc.c3; have kg := hc.ca; clear hc; go_simp; try with_reducible rfl))
 (refine wpAnyC_take (i := 4) (v := ?_) hFi2 rfl (by kernel_rfl) (by kernel_rfl) (by kernel_rfl) (fun _ _ _ h => h) (Or.inl ⟨by kernel_rfl, ?_⟩) ?_; rotate_left; (intro w hc; have k0 := hc.c0; have k1 := hc.c1; have k2 := hc.c2; have k3 := hc.c3; have kg := hc.ca; clear hc; go_simp; try with_reducible rfl))
 (refine wpAnyC_take (i := 5) (v := ?_) hFi2 rfl (by kernel_rfl) (by kernel_rfl) (by kernel_rfl) (fun _ _ _ h => h) (Or.inl ⟨by kernel_rfl, ?_⟩) ?_; rotate_left; (intro w hc; have k0 := hc.c0; have k1 := hc.c1; have k2 := hc.c2; have k3 := hc.c3; have kg := hc.ca; clear hc; go_simp; try with_reducible rfl))
 (refine wpAnyC_take (i := 6) (v := ?_) hFi2 rfl (by kernel_rfl) (by kernel_rfl) (by kernel_rfl) (fun _ _ _ h => h) (Or.inl ⟨by kernel_rfl, ?_⟩) ?_; rotate_left; (intro w hc; have k0 := hc.c0; have k1 := hc.c1; have k2 := hc.c2; have k3 := hc.c3; have kg := hc.ca; clear hc; go_simp; try with_reducible rfl))
 (refine wpAnyC_take (i := 7) (v := ?_) hFi2 rfl (by kernel_rfl) (by kernel_rfl) (by kernel_rfl) (fun _ _ _ h => h) (Or.inl ⟨by kernel_rfl, ?_⟩) ?_; rotate_left; (intro w hc; have k0 := hc.c0; have k1 := hc.c1; have k2 := hc.c2; have k3 := hc.c3; have kg := hc.ca; clear hc; go_simp; try with_reducible rfl))
 (refine wpAnyC_take (i := 8) (v := ?_) hFi2 rfl (by kernel_rfl) (by kernel_rfl) (by kernel_rfl) (fun _ _ _ h => h) (Or.inl ⟨by kernel_rfl, ?_⟩) ?_; rotate_left; (intro w hc; have k0 := hc.c0; have k1 := hc.c1; have k2 := hc.c2; have k3 := hc.c3; have kg := hc.ca; clear hc; go_simp; try with_reducible rfl))
 (refine wpAnyC_take (i := 9) (v := ?_) hFi2 rfl (by kernel_rfl) (by kernel_rfl) (by kernel_rfl) (fun _ _ _ h => h) (Or.inl ⟨by kernel_rfl, ?_⟩) ?_; rotate_left; (intro w hc; have k0 := hc.c0; have k1 := hc.c1; have k2 := hc.c2; have k3 := hc.c3; have kg := hc.ca; clear hc; go_simp; try with_reducible rfl))
 go_simp
 (refine wpAnyC_take (i := 10) (v := ?_) hFi2 rfl (by kernel_rfl) (by kernel_rfl) (by kernel_rfl) (fun _ _ _ h => h) (Or.inl ⟨by kernel_rfl, ?_⟩) ?_; rotate_left; (intro w hc; have k0 := hc.c0; have k1 := hc.c1; have k2 := hc.c2; have k3 := hc.c3; have kg := hc.ca; clear hc; go_simp; try with_reducible rfl))
 (refine wpAnyC_take (i := 11) (v := ?_) hFi2 rfl (by kernel_rfl) (by kernel_rfl) (by kernel_rfl) (fun _ _ _ h => h) (Or.inl ⟨by kernel_rfl, ?_⟩) ?_; rotate_left; (intro w hc; have k0 := hc.c0; have k1 := hc.c1; have k2 := hc.c2; have k3 := hc.c3; have kg := hc.ca; clear hc; go_simp; try with_reducible rfl))
 (refine wpAnyC_take (i := 12) (v := ?_) hFi2 rfl (by kernel_rfl) (by kernel_rfl) (by kernel_rfl) (fun _ _ _ h => h) (Or.inl ⟨by kernel_rfl, ?_⟩) ?_; rotate_left; (intro w hc; have k0 := hc.c0; have k1 := hc.c1; have k2 := hc.c2; have k3 := hc.c3; have kg := hc.ca; clear hc; go_simp; try with_reducible rfl))
 (refine wpAnyC_take (i := 13) (v := ?_) hFi2 rfl (by kernel_rfl) (by kernel_rfl) (by kernel_rfl) (fun _ _ _ h => h) (Or.inl ⟨by kernel_rfl, ?_⟩) ?_; rotate_left; (intro w hc; have k0 := hc.c0; have k1 := hc.c1; have k2 := hc.c2; have k3 := hc.c3; have kg := hc.ca; clear hc; go_simp; try with_reducible rfl))
 (refine wpAnyC_take (i := 14) (v := ?_) hFi2 rfl (by kernel_rfl) (by kernel_rfl) (by kernel_rfl) (fun _ _ _ h => h) (Or.inl ⟨by kernel_rfl, ?_⟩) ?_; rotate_left; (intro w hc; have k0 := hc.c0; have k1 := hc.c1; have k2 := hc.c2; have k3 := hc.c3; have kg := hc.ca; clear hc; go_simp; try with_reducible rfl))
 (refine wpAnyC_take (i := 15) (v := ?_) hFi2 rfl (by kernel_rfl) (by kernel_rfl) (by kernel_rfl) (fun _ _ _ h => h) (Or.inl ⟨by kernel_rfl, ?_⟩) ?_; rotate_left; (intro w hc; have k0 := hc.c0; have k1 := hc.c1; have k2 := hc.c2; have k3 := hc.c3; have kg := hc.ca; clear hc; go_simp; try with_reducible rfl))
 (refine wpAnyC_take (i := 16) (v := ?_) hFi2 rfl (by kernel_rfl) (by kernel_rfl) (by kernel_rfl) (fun _ _ _ h => h) (Or.inl ⟨by kernel_rfl, ?_⟩) ?_; rotate_left; (intro w hc; have k0 := hc.c0; have k1 := hc.c1; have k2 := hc.c2; have k3 := hc.c3; have kg := hc.ca; clear hc; go_simp; try with_reducible rfl))
 go_simp
 (refine wpAnyC_take (i := 17) (v := ?_) hFi2 rfl (by kernel_rfl) (by kernel_rfl) (by kernel_rfl) (fun _ _ _ h => h) (Or.inl ⟨by kernel_rfl, ?_⟩) ?_; rotate_left; (intro w hc; have k0 := hc.c0; have k1 := hc.c1; have k2 := hc.c2; have k3 := hc.c3; have kg := hc.ca; clear hc; go_simp; try with_reducible rfl))
 (refine wpAnyC_take (i := 18) (v := ?_) hFi2 rfl (by kernel_rfl) (by kernel_rfl) (by kernel_rfl) (fun _ _ _ h => h) (Or.inl ⟨by kernel_rfl, ?_⟩) ?_; rotate_left; (intro w hc; have k0 := hc.c0; have k1 := hc.c1; have k2 := hc.c2; have k3 := hc.c3; have kg := hc.ca; clear hc; go_simp; try with_reducible rfl))
 go_simp
 (refine wpAnyC_take (i := 19) (v := ?_) hFi2 rfl (by kernel_rfl) (by kernel_rfl) (by kernel_rfl) (fun _ _ _ h => h) (Or.inl ⟨by kernel_rfl, ?_⟩) ?_; rotate_left; (intro w hc; have k0 := hc.c0; have k1 := hc.c1; have k2 := hc.c2; have k3 := hc.c3; have kg := hc.ca; clear hc; go_simp; try with_reducible rfl))
 (refine wpAnyC_take (i := 20) (v := ?_) hFi2 rfl (by kernel_rfl) (by kernel_rfl) (by kernel_rfl) (fun _ _ _ h => h) (Or.inl ⟨by kernel_rfl, ?_⟩) ?_; rotate_left; (intro w hc; have k0 := hc.c0; have k1 := hc.c1; have k2 := hc.c2; have k3 := hc.c3; have kg := hc.ca; clear hc; go_simp; try with_reducible rfl))
 (refine wpAnyC_take (i := 21) (v := ?_) hFi2 rfl (by kernel_rfl) (by kernel_rfl) (by kernel_rfl) (fun _ _ _ h => h) (Or.inl ⟨by kernel_rfl, ?_⟩) ?_; rotate_left; (intro w hc; have k0 := hc.c0; have k1 := hc.c1; have k2 := hc.c2; have k3 := hc.c3; have kg := hc.ca; clear hc; go_simp; try with_reducible rfl))
 go_simp
 (refine wpAnyC_take (i := 22) (v := ?_) hFi2 rfl (by kernel_rfl) (by kernel_rfl) (by kernel_rfl) (fun _ _ _ h => h) (Or.inl ⟨by kernel_rfl, ?_⟩) ?_; rotate_left; (intro w hc; have k0 := hc.c0; have k1 := hc.c1; have k2 := hc.c2; have k3 := hc.c3; have kg := hc.ca; clear hc; go_simp; try with_reducible rfl))
 (refine wpAnyC_take (i := 23) (v := ?_) hFi2 rfl (by kernel_rfl) (by kernel_rfl) (by kernel_rfl) (fun _ _ _ h => h) (Or.inl ⟨by kernel_rfl, ?_⟩) ?_; rotate_left; (intro w hc; have k0 := hc.c0; have k1 := hc.c1; have k2 := hc.c2; have k3 := hc.c3; have kg := hc.ca; clear hc; go_simp; try with_reducible rfl))
 (refine wpAnyC_take (i := 24) (v := ?_) hFi2 rfl (by kernel_rfl) (by kernel_rfl) (by kernel_rfl) (fun _ _ _ h => h) (Or.inl ⟨by kernel_rfl, ?_⟩) ?_; rotate_left; (intro w hc; have k0 := hc.c0; have k1 := hc.c1; have k2 := hc.c2; have k3 := hc.c3; have kg := hc.ca; clear hc; go_simp; try with_reducible rfl))
 (refine wpAnyC_take (i := 25) (v := ?_) hFi2 rfl (by kernel_rfl) (by kernel_rfl) (by kernel_rfl) (fun _ _ _ h => h) (Or.inl ⟨by kernel_rfl, ?_⟩) ?_; rotate_left; (intro w hc; have k0 := hc.c0; have k1 := hc.c1; have k2 := hc.c2; have k3 := hc.c3; have kg := hc.ca; clear hc; go_simp; try with_reducible rfl))
 go_simp
 (refine wpAnyC_take (i := 26) (v := ?_) hFi2 rfl (by kernel_rfl) (by kernel_rfl) (by kernel_rfl) (fun _ _ _ h => h) (Or.inl ⟨by kernel_rfl, ?_⟩) ?_; rotate_left; (intro w hc; have k0 := hc.c0; have k1 := hc.c1; have k2 := hc.c2; have k3 := hc.c3; have kg := hc.ca; clear hc; go_simp; try with_reducible rfl))
 go_simp
 (refine wpAnyC_take (i := 27) (v := ?_) hFi2 rfl (by kernel_rfl) (by kernel_rfl) (by kernel_rfl) (fun _ _ _ h => h) (Or.inl ⟨by kernel_rfl, ?_⟩) ?_; rotate_left; (intro w hc; have k0 := hc.c0; have k1 := hc.c1; have k2 := hc.c2; have k3 := hc.c3; have kg := hc.ca; clear hc; go_simp; try with_reducible rfl))
 go_simp
 refine wpAnyC_done (by kernel_rfl) ?_ _
 go_wp2
 go_ret
 exact ⟨rfl, hB2⟩
set_option maxRecDepth 100000 in
set_option maxHeartbeats 4000000 in
theorem fits_yes4 (B M : Nat) (E : Addr) (L : Ents) (wt rm : Int) (A : Nat) (n : Nv) (clk : Int) (w : World) (cA : w.cell? ⟨A, 2, none⟩ = some (.int .i64 clk)) (hA : A < w.heap.size) (hp : n.path.length ≤ 400000) (hd : ∃ a cap, n.dv = .slice a n.nd.data.length cap) (hv : valid n.path = true) (ht : ¬ n.nd.time < 0) (hc : ¬ clk < n.nd.time) (hdir : n.nd.dir = false) (h : FsAt w A M L wt clk rm) (hG : Glo B w E) (hB : B ≤ w.heap.size) :
  Calls Tryz.prog 49 #[.pointer (some ⟨A, 0, none⟩), .agg #[.string (mk n.path), .bool n.nd.dir, .int .i64 n.nd.time, n.dv]] w fun r w' => r = .returned (.bool (upDir (lookV L (parent n.path)))) ∧ Below w.heap.size w w' := by
 obtain ⟨da, dc, hdv⟩ := hd
 rw [hdv]
 have q1 := fun (w : World) => valid_any (mk n.path) w (by rw [mk_size]; omega)
 rw [tl_mk, hv] at q1
 generalize n.nd.dir = d at *
 generalize n.nd.time = t at *
 generalize (n.nd.data.length : Nat) = ln at *
 clear hdv
 subst hdir
 go_enter Tryz.func49, Tryz.ntmps49
 go_wp2
 have hb1 : Below w.heap.size w (w.alloc (.cells #[.string (mk n.path), .bool false, .int .i64 t, .slice da ln dc] 60)) := (Below.refl _ _).alloc (Nat.le_refl _) _
 obtain ⟨w1, hw1⟩ : ∃ w1, w1 = w.alloc (.cells #[.string (mk n.path), .bool false, .int .i64 t, .slice da ln dc] 60) := ⟨_, rfl⟩
 have hs1 : w1.heap.size = w.heap.size + 1 := by rw [hw1]; simp
 have hbk : w1.heap[w.heap.size]? = some (.cells #[.string (mk n.path), .bool false, .int .i64 t, .slice da ln dc] 60 (0, 0)) := by rw [hw1]; exact alloc_new _ _
 rw [← hw1] at hb1
 have hFi : FiC w.heap.size A (mk n.path) false t (.slice da ln dc) clk w1.drew :=
  ⟨by show w1.cell? _ = _; rw [Lib.cell_of_heap hbk]; rfl, by show w1.cell? _ = _; rw [Lib.cell_of_heap hbk]; rfl, by show w1.cell? _ = _; rw [Lib.cell_of_heap hbk]; rfl, by show w1.cell? _ = _; rw [Lib.cell_of_heap hbk]; rfl, (hb1.cell (p := ⟨A, 2, none⟩) hA).trans cA⟩
 rw [← hw1]
 clear hw1
 refine wp_region_class (C := FiC w.heap.size A (mk n.path) false t (.slice da ln dc) clk) (by kernel_rfl) ?_
 (refine wpAnyC_take (i := 0) (v := ?_) hFi rfl (by kernel_rfl) (by kernel_rfl) (by kernel_rfl) (fun _ _ _ h => h) (Or.inl ⟨by kernel_rfl, ?_⟩) ?_; rotate_left; (intro w hc; have k0 := hc.c0; have k1 := hc.c1; have k2 := hc.c2; have k3 := hc.c3; have kg := hc.ca; clear hc; go_simp; try with_reducible rfl))
 (refine wpAnyC_take (i := 1) (v := ?_) hFi rfl (by kernel_rfl) (by kernel_rfl) (by kernel_rfl) (fun _ _ _ h => h) (Or.inl ⟨by kernel_rfl, ?_⟩) ?_; rotate_left; (intro w hc; have k0 := hc.c0; have k1 := hc.c1; have k2 := hc.c2; have k3 := hc.c3; have kg := hc.ca; clear hc; go_simp; try with_reducible rfl))
 refine wpAnyC_one (i := 2) (by kernel_rfl) (wpOp_wanted rfl (by rfl) ?_)
 go_simp
 refine (q1 _).mono ?_
 rintro e w2 ⟨rfl, hb2⟩
 dsimp only
 have hFi2 := hFi.below hb2 (by show w.heap.size < w1.heap.size; omega) (by show A < w1.heap.size; omega)
 have hB2 : Below w.heap.size w w2 := hb1.drew.trans (hb2.mono (by show w.heap.size ≤ w1.heap.size; omega))
 refine ⟨hFi2, ?_⟩
 have ht2 : decide (t < 0) = false := decide_eq_false (by omega)
 have hc2 : decide (clk < t) = false := decide_eq_false (by omega)
 (refine wpAnyC_take (i := 3) (v := ?_) hFi2 rfl (by kernel_rfl) (by kernel_rfl) (by kernel_rfl) (fun _ _ _ h => h) (Or.inl ⟨by kernel_rfl, ?_⟩) ?_; rotate_left; (intro w hc; have k0 := hc.c0; have k1 := hc.c1; have k2 := hc.c2; have k3 := hc.c3; have kg := hc.ca; clear hc; go_simp; try with_reducible rfl))
 (refine wpAnyC_take (i := 4) (v := ?_) hFi2 rfl (by kernel_rfl) (by kernel_rfl) (by kernel_rfl) (fun _ _ _ h => h) (Or.inl ⟨by kernel_rfl, ?_⟩) ?_; rotate_left; (intro w hc; have k0 := hc.c0; have k1 := hc.c1; have k2 := hc.c2; have k3 := hc.c3; have kg := hc.ca; clear hc; go_simp; try with_reducible rfl))
 (refine wpAnyC_take (i := 5) (v := ?_) hFi2 rfl (by kernel_rfl) (by kernel_rfl) (by kernel_rfl) (fun _ _ _ h => h) (Or.inl ⟨by kernel_rfl, ?_⟩) ?_; rotate_left; (intro w hc; have k0 := hc.c0; have k1 := hc.c1; have k2 := hc.c2; have k3 := hc.c3; have kg := hc.ca; clear hc; go_simp; try with_reducible rfl))
 (refine wpAnyC_take (i := 6) (v := ?_) hFi2 rfl (by kernel_rfl) (by kernel_rfl) (by kernel_rfl) (fun _ _ _ h => h) (Or.inl ⟨by kernel_rfl, ?_⟩) ?_; rotate_left; (intro w hc; have k0 := hc.c0; have k1 := hc.c1; have k2 := hc.c2; have k3 := hc.c3; have kg := hc.ca; clear hc; go_simp; try with_reducible rfl))
 (refine wpAnyC_take (i := 7) (v := ?_) hFi2 rfl (by kernel_rfl) (by kernel_rfl) (by kernel_rfl) (fun _ _ _ h => h) (Or.inl ⟨by kernel_rfl, ?_⟩) ?_; rotate_left; (intro w hc; have k0 := hc.c0; have k1 := hc.c1; have k2 := hc.c2; have k3 := hc.c3; have kg := hc.ca; clear hc; go_simp; try with_reducible rfl))
 (refine wpAnyC_take (i := 8) (v := ?_) hFi2 rfl (by kernel_rfl) (by kernel_rfl) (by kernel_rfl) (fun _ _ _ h => h) (Or.inl ⟨by kernel_rfl, ?_⟩) ?_; rotate_left; (intro w hc; have k0 := hc.c0; have k1 := hc.c1; have k2 := hc.c2; have k3 := hc.c3; have kg := hc.ca; clear hc; go_simp; try with_reducible rfl))
 (refine wpAnyC_take (i := 9) (v := ?_) hFi2 rfl (by kernel_rfl) (by kernel_rfl) (by kernel_rfl) (fun _ _ _ h => h) (Or.inl ⟨by kernel_rfl, ?_⟩) ?_; rotate_left; (intro w hc; have k0 := hc.c0; have k1 := hc.c1; have k2 := hc.c2; have k3 := hc.c3; have kg := hc.ca; clear hc; go_simp; try with_reducible rfl))
 go_simp
 (refine wpAnyC_take (i := 10) (v := ?_) hFi2 rfl (by kernel_rfl) (by kernel_rfl) (by kernel_rfl) (fun _ _ _ h => h) (Or.inl ⟨by kernel_rfl, ?_⟩) ?_; rotate_left; (intro w hc; have k0 := hc.c0; have k1 := hc.c1; have k2 := hc.c2; have k3 := hc.c3; have kg := hc.ca; clear hc; go_simp; try with_reducible rfl))
 (refine wpAnyC_take (i := 11) (v := ?_) hFi2 rfl (by kernel_rfl) (by kernel_rfl) (by kernel_rfl) (fun _ _ _ h => h) (Or.inl ⟨by kernel_rfl, ?_⟩) ?_; rotate_left; (intro w hc; have k0 := hc.c0; have k1 := hc.c1; have k2 := hc.c2; have k3 := hc.c3; have kg := hc.ca; clear hc; go_simp; try with_reducible rfl))
 (refine wpAnyC_take (i := 12) (v := ?_) hFi2 rfl (by kernel_rfl) (by kernel_rfl) (by kernel_rfl) (fun _ _ _ h => h) (Or.inl ⟨by kernel_rfl, ?_⟩) ?_; rotate_left; (intro w hc; have k0 := hc.c0; have k1 := hc.c1; have k2 := hc.c2; have k3 := hc.c3; have kg := hc.ca; clear hc; go_simp; try with_reducible rfl))
 (refine wpAnyC_take (i := 13) (v := ?_) hFi2 rfl (by kernel_rfl) (by kernel_rfl) (by kernel_rfl) (fun _ _ _ h => h) (Or.inl ⟨by kernel_rfl, ?_⟩) ?_; rotate_left; (intro w hc; have k0 := hc.c0; have k1 := hc.c1; have k2 := hc.c2; have k3 := hc.c3; have kg := hc.ca; clear hc; go_simp; try with_reducible rfl))
 (refine wpAnyC_take (i := 14) (v := ?_) hFi2 rfl (by kernel_rfl) (by kernel_rfl) (by kernel_rfl) (fun _ _ _ h => h) (Or.inl ⟨by kernel_rfl, ?_⟩) ?_; rotate_left; (intro w hc; have k0 := hc.c0; have k1 := hc.c1; have k2 := hc.c2; have k3 := hc.c3; have kg := hc.ca; clear hc; go_simp; try with_reducible rfl))
 (refine wpAnyC_take (i := 15) (v := ?_) hFi2 rfl (by kernel_rfl) (by kernel_rfl) (by kernel_rfl) (fun _ _ _ h => h) (Or.inl ⟨by kernel_rfl, ?_⟩) ?_; rotate_left; (intro w hc; have k0 := hc.c0; have k1 := hc.c1; have k2 := hc.c2; have k3 := hc.c3; have kg := hc.ca; clear hc; go_simp; try with_reducible rfl))
 (refine wpAnyC_take (i := 16) (v := ?_) hFi2 rfl (by kernel_rfl) (by kernel_rfl) (by kernel_rfl) (fun _ _ _ h => h) (Or.inl ⟨by kernel_rfl, ?_⟩) ?_; rotate_left; (intro w hc; have k0 := hc.c0; have k1 := hc.c1; have k2 := hc.c2; have k3 := hc.c3; have kg := hc.ca; clear hc; go_simp; try with_reducible rfl))
 go_simp
 (refine wpAnyC_take (i := 17) (v := ?_) hFi2 rfl (by kernel_rfl) (by kernel_rfl) (by kernel_rfl) (fun _ _ _ h => h) (Or.inl ⟨by kernel_rfl, ?_⟩) ?_; rotate_left; (intro w hc; have k0 := hc.c0; have k1 := hc.c1; have k2 := hc.c2; have k3 := hc.c3; have kg := hc.ca; clear hc; go_simp; try with_reducible rfl))
 (refine wpAnyC_take (i := 18) (v := ?_) hFi2 rfl (by kernel_rfl) (by kernel_rfl) (by kernel_rfl) (fun _ _ _ h => h) (Or.inl ⟨by kernel_rfl, ?_⟩) ?_; rotate_left; (intro w hc; have k0 := hc.c0; have k1 := hc.c1; have k2 := hc.c2; have k3 := hc.c3; have kg := hc.ca; clear hc; go_simp; try with_reducible rfl))
 go_simp
 (refine wpAnyC_take (i := 19) (v := ?_) hFi2 rfl (by kernel_rfl) (by kernel_rfl) (by kernel_rfl) (fun _ _ _ h => h) (Or.inl ⟨by kernel_rfl, ?_⟩) ?_; rotate_left; (intro w hc; have k0 := hc.c0; have k1 := hc.c1; have k2 := hc.c2; have k3 := hc.c3; have kg := hc.ca; clear hc; go_simp; try with_reducible rfl))
 (refine wpAnyC_take (i := 20) (v := ?_) hFi2 rfl (by kernel_rfl) (by kernel_rfl) (by kernel_rfl) (fun _ _ _ h => h) (Or.inl ⟨by kernel_rfl, ?_⟩) ?_; rotate_left; (intro w hc; have k0 := hc.c0; have k1 := hc.c1; have k2 := hc.c2; have k3 := hc.c3; have kg := hc.ca; clear hc; go_simp; try with_reducible rfl))
 (refine wpAnyC_take (i := 21) (v := ?_) hFi2 rfl (by kernel_rfl) (by kernel_rfl) (by kernel_rfl) (fun _ _ _ h => h) (Or.inl ⟨by kernel_rfl, ?_⟩) ?_; rotate_left; (intro w hc; have k0 := hc.c0; have k1 := hc.c1; have k2 := hc.c2; have k3 := hc.c3; have kg := hc.ca; clear hc; go_simp; try with_reducible rfl))
 go_simp
 refine wpAnyC_take (i := 22) (v := undef) hFi2 rfl (by kernel_rfl) (by kernel_rfl) (by kernel_rfl) (fun _ _ _ h => h) (Or.inr ⟨by kernel_rfl, rfl⟩) ?_
 refine wpAnyC_take (i := 23) (v := undef) hFi2 rfl (by kernel_rfl) (by kernel_rfl) (by kernel_rfl) (fun _ _ _ h => h) (Or.inr ⟨by kernel_rfl, rfl⟩) ?_
 refine wpAnyC_take (i := 24) (v := undef) hFi2 rfl (by kernel_rfl) (by kernel_rfl) (by kernel_rfl) (fun _ _ _ h => h) (Or.inr ⟨by kernel_rfl, rfl⟩) ?_
 refine wpAnyC_take (i := 25) (v := undef) hFi2 rfl (by kernel_rfl) (by kernel_rfl) (by kernel_rfl) (fun _ _ _ h => h) (Or.inr ⟨by kernel_rfl, rfl⟩) ?_
 go_simp
 (refine wpAnyC_take (i := 26) (v := ?_) hFi2 rfl (by kernel_rfl) (by kernel_rfl) (by kernel_rfl) (fun _ _ _ h => h) (Or.inl ⟨by kernel_rfl, ?_⟩) ?_; rotate_left; (intro w hc; have k0 := hc.c0; have k1 := hc.c1; have k2 := hc.c2; have k3 := hc.c3; have kg := hc.ca; clear hc; go_simp; try with_reducible rfl))
 go_simp
 (refine wpAnyC_take (i := 27) (v := ?_) hFi2 rfl (by kernel_rfl) (by kernel_rfl) (by kernel_rfl) (fun _ _ _ h => h) (Or.inl ⟨by kernel_rfl, ?_⟩) ?_; rotate_left; (intro w hc; have k0 := hc.c0; have k1 := hc.c1; have k2 := hc.c2; have k3 := hc.c3; have kg := hc.ca; clear hc; go_simp; try with_reducible rfl))
 go_simp
 refine wpAnyC_done (by kernel_rfl) ?_ _
 have q2 := fun (w : World) => parent_any (mk n.path) (by rw [mk_size]; omega) w
 rw [tl_mk] at q2
 have hpl := parent_len n.path
 have c20 := hFi2.c0
 go_wp2_with fail
 refine (q2 _).mono ?_
 rintro e w3 ⟨rfl, hb3⟩
 have hB3 := hB2.trans (hb3.mono hB2.size)
 have q3 := look_any B A M L wt clk rm (parent n.path) w3 E (h.below hB3) (hG.keep (hB3.mono hB)) (Nat.le_trans hB hB3.size) (by omega)
 go_wp2_with fail
 cases hl : lookV L (parent n.path) with
 | bad k =>
  rw [hl] at q3
  refine q3.mono ?_
  rintro r w4 ⟨⟨b, rfl, hf⟩, hb4⟩
  go_wp2
  go_ret
  exact ⟨by rw [hl]; rfl, hB3.trans (hb4.mono hB3.size)⟩
 | non =>
  rw [hl] at q3
  refine q3.mono ?_
  rintro r w4 ⟨⟨b, rfl, hf⟩, hb4⟩
  go_wp2
  go_ret
  exact ⟨by rw [hl]; rfl, hB3.trans (hb4.mono hB3.size)⟩
 | rt =>
  rw [hl] at q3
  refine q3.mono ?_
  rintro r w4 ⟨⟨b, hbN, rfl, hn⟩, hb4⟩
  have c0 : w4.cell? ⟨b, 0, none⟩ = some (.bool true) := hn.c0
  go_wp2
  go_ret
  exact ⟨by rw [hl]; rfl, hB3.trans (hb4.mono hB3.size)⟩
 | is e =>
  rw [hl] at q3
  obtain ⟨k, hm⟩ := lookV_mem hl
  have hn : NodeAt w e := h.nodes _ hm
  refine q3.mono ?_
  rintro r w4 ⟨rfl, hb4⟩
  have hB4 := hB3.trans (hb4.mono hB3.size)
  have c0 := (hn.below hB4).c0
  cases hed : e.nd.dir with
  | true =>
   rw [hed] at c0
   go_wp2
   go_ret
   exact ⟨by rw [hl]; show _ = Ending.returned (.bool e.nd.dir); rw [hed]; rfl, hB4⟩
  | false =>
   rw [hed] at c0
   go_wp2
   go_ret
   exact ⟨by rw [hl]; show _ = Ending.returned (.bool e.nd.dir); rw [hed]; rfl, hB4⟩
set_option maxRecDepth 100000 in
set_option maxHeartbeats 4000000 in
theorem fits_yes6 (B M : Nat) (E : Addr) (L : Ents) (wt rm : Int) (A : Nat) (n : Nv) (clk : Int) (w : World) (cA : w.cell? ⟨A, 2, none⟩ = some (.int .i64 clk)) (hA : A < w.heap.size) (hp : n.path.length ≤ 400000) (hd : ∃ a cap, n.dv = .slice a n.nd.data.length cap) (hv : valid n.path = true) (ht : ¬ n.nd.time < 0) (hc : ¬ clk < n.nd.time) (hdir : n.nd.dir = true) (hln : n.nd.data.length = 0) (h : FsAt w A M L wt clk rm) (hG : Glo B w E) (hB : B ≤ w.heap.size) :
  Calls Tryz.prog 49 #[.pointer (some ⟨A, 0, none⟩), .agg #[.string (mk n.path), .bool n.nd.dir, .int .i64 n.nd.time, n.dv]] w fun r w' => r = .returned (.bool (upDir (lookV L (parent n.path)))) ∧ Below w.heap.size w w' := by
 obtain ⟨da, dc, hdv⟩ := hd
 rw [hdv]
 have q1 := fun (w : World) => valid_any (mk n.path) w (by rw [mk_size]; omega)
 rw [tl_mk, hv] at q1
 generalize n.nd.dir = d at *
 generalize n.nd.time = t at *
 generalize (n.nd.data.length : Nat) = ln at *
 clear hdv
 subst hdir
 subst hln
 go_enter Tryz.func49, Tryz.ntmps49
 go_wp2
 have hb1 : Below w.heap.size w (w.alloc (.cells #[.string (mk n.path), .bool true, .int .i64 t, .slice da 0 dc] 60)) := (Below.refl _ _).alloc (Nat.le_refl _) _
 obtain ⟨w1, hw1⟩ : ∃ w1, w1 = w.alloc (.cells #[.string (mk n.path), .bool true, .int .i64 t, .slice da 0 dc] 60) := ⟨_, rfl⟩
 have hs1 : w1.heap.size = w.heap.size + 1 := by rw [hw1]; simp
 have hbk : w1.heap[w.heap.size]? = some (.cells #[.string (mk n.path), .bool true, .int .i64 t, .slice da 0 dc] 60 (0, 0)) := by rw [hw1]; exact alloc_new _ _
 rw [← hw1] at hb1
 have hFi : FiC w.heap.size A (mk n.path) true t (.slice da 0 dc) clk w1.drew :=
  ⟨by show w1.cell? _ = _; rw [Lib.cell_of_heap hbk]; rfl, by show w1.cell? _ = _; rw [Lib.cell_of_heap hbk]; rfl, by show w1.cell? _ = _; rw [Lib.cell_of_heap hbk]; rfl, by show w1.cell? _ = _; rw [Lib.cell_of_heap hbk]; rfl, (hb1.cell (p := ⟨A, 2, none⟩) hA).trans cA⟩
 rw [← hw1]
 clear hw1
 refine wp_region_class (C := FiC w.heap.size A (mk n.path) true t (.slice da 0 dc) clk) (by kernel_rfl) ?_
 (refine wpAnyC_take (i := 0) (v := ?_) hFi rfl (by kernel_rfl) (by kernel_rfl) (by kernel_rfl) (fun _ _ _ h => h) (Or.inl ⟨by kernel_rfl, ?_⟩) ?_; rotate_left; (intro w hc; have k0 := hc.c0; have k1 := hc.c1; have k2 := hc.c2; have k3 := hc.c3; have kg := hc.ca; clear hc; go_simp; try with_reducible rfl))
 (refine wpAnyC_take (i := 1) (v := ?_) hFi rfl (by kernel_rfl) (by kernel_rfl) (by kernel_rfl) (fun _ _ _ h => h) (Or.inl ⟨by kernel_rfl, ?_⟩) ?_; rotate_left; (intro w hc; have k0 := hc.c0; have k1 := hc.c1; have k2 := hc.c2; have k3 := hc.c3; have kg := hc.ca; clear hc; go_simp; try with_reducible rfl))
 refine wpAnyC_one (i := 2) (by kernel_rfl) (wpOp_wanted rfl (by rfl) ?_)
 go_simp
 refine (q1 _).mono ?_
 rintro e w2 ⟨rfl, hb2⟩
 dsimp only
 have hFi2 := hFi.below hb2 (by show w.heap.size < w1.heap.size; omega) (by show A < w1.heap.size; omega)
 have hB2 : Below w.heap.size w w2 := hb1.drew.trans (hb2.mono (by show w.heap.size ≤ w1.heap.size; omega))
 refine ⟨hFi2, ?_⟩
 have ht2 : decide (t < 0) = false := decide_eq_false (by omega)
 have hc2 : decide (clk < t) = false := decide_eq_false (by omega)
 (refine wpAnyC_take (i := 3) (v := ?_) hFi2 rfl (by kernel_rfl) (by kernel_rfl) (by kernel_rfl) (fun _ _ _ h => h) (Or.inl ⟨by kernel_rfl, ?_⟩) ?_; rotate_left; (intro w hc; have k0 := hc.c0; have k1 := hc.c1; have k2 := hc.c2; have k3 := hc.c3; have kg := hc.ca; clear hc; go_simp; try with_reducible rfl))
 (refine wpAnyC_take (i := 4) (v := ?_) hFi2 rfl (by kernel_rfl) (by kernel_rfl) (by kernel_rfl) (fun _ _ _ h => h) (Or.inl ⟨by kernel_rfl, ?_⟩) ?_; rotate_left; (intro w hc; have k0 := hc.c0; have k1 := hc.c1; have k2 := hc.c2; have k3 := hc.c3; have kg := hc.ca; clear hc; go_simp; try with_reducible rfl))
 (refine wpAnyC_take (i := 5) (v := ?_) hFi2 rfl (by kernel_rfl) (by kernel_rfl) (by kernel_rfl) (fun _ _ _ h => h) (Or.inl ⟨by kernel_rfl, ?_⟩) ?_; rotate_left; (intro w hc; have k0 := hc.c0; have k1 := hc.c1; have k2 := hc.c2; have k3 := hc.c3; have kg := hc.ca; clear hc; go_simp; try with_reducible rfl))
 (refine wpAnyC_take (i := 6) (v := ?_) hFi2 rfl (by kernel_rfl) (by kernel_rfl) (by kernel_rfl) (fun _ _ _ h => h) (Or.inl ⟨by kernel_rfl, ?_⟩) ?_; rotate_left; (intro w hc; have k0 := hc.c0; have k1 := hc.c1; have k2 := hc.c2; have k3 := hc.c3; have kg := hc.ca; clear hc; go_simp; try with_reducible rfl))
 (refine wpAnyC_take (i := 7) (v := ?_) hFi2 rfl (by kernel_rfl) (by kernel_rfl) (by kernel_rfl) (fun _ _ _ h => h) (Or.inl ⟨by kernel_rfl, ?_⟩) ?_; rotate_left; (intro w hc; have k0 := hc.c0; have k1 := hc.c1; have k2 := hc.c2; have k3 := hc.c3; have kg := hc.ca; clear hc; go_simp; try with_reducible rfl))
 (refine wpAnyC_take (i := 8) (v := ?_) hFi2 rfl (by kernel_rfl) (by kernel_rfl) (by kernel_rfl) (fun _ _ _ h => h) (Or.inl ⟨by kernel_rfl, ?_⟩) ?_; rotate_left; (intro w hc; have k0 := hc.c0; have k1 := hc.c1; have k2 := hc.c2; have k3 := hc.c3; have kg := hc.ca; clear hc; go_simp; try with_reducible rfl))
 (refine wpAnyC_take (i := 9) (v := ?_) hFi2 rfl (by kernel_rfl) (by kernel_rfl) (by kernel_rfl) (fun _ _ _ h => h) (Or.inl ⟨by kernel_rfl, ?_⟩) ?_; rotate_left; (intro w hc; have k0 := hc.c0; have k1 := hc.c1; have k2 := hc.c2; have k3 := hc.c3; have kg := hc.ca; clear hc; go_simp; try with_reducible rfl))
 go_simp
 (refine wpAnyC_take (i := 10) (v := ?_) hFi2 rfl (by kernel_rfl) (by kernel_rfl) (by kernel_rfl) (fun _ _ _ h => h) (Or.inl ⟨by kernel_rfl, ?_⟩) ?_; rotate_left; (intro w hc; have k0 := hc.c0; have k1 := hc.c1; have k2 := hc.c2; have k3 := hc.c3; have kg := hc.ca; clear hc; go_simp; try with_reducible rfl))
 (refine wpAnyC_take (i := 11) (v := ?_) hFi2 rfl (by kernel_rfl) (by kernel_rfl) (by kernel_rfl) (fun _ _ _ h => h) (Or.inl ⟨by kernel_rfl, ?_⟩) ?_; rotate_left; (intro w hc; have k0 := hc.c0; have k1 := hc.c1; have k2 := hc.c2; have k3 := hc.c3; have kg := hc.ca; clear hc; go_simp; try with_reducible rfl))
 (refine wpAnyC_take (i := 12) (v := ?_) hFi2 rfl (by kernel_rfl) (by kernel_rfl) (by kernel_rfl) (fun _ _ _ h => h) (Or.inl ⟨by kernel_rfl, ?_⟩) ?_; rotate_left; (intro w hc; have k0 := hc.c0; have k1 := hc.c1; have k2 := hc.c2; have k3 := hc.c3; have kg := hc.ca; clear hc; go_simp; try with_reducible rfl))
 (refine wpAnyC_take (i := 13) (v := ?_) hFi2 rfl (by kernel_rfl) (by kernel_rfl) (by kernel_rfl) (fun _ _ _ h => h) (Or.inl ⟨by kernel_rfl, ?_⟩) ?_; rotate_left; (intro w hc; have k0 := hc.c0; have k1 := hc.c1; have k2 := hc.c2; have k3 := hc.c3; have kg := hc.ca; clear hc; go_simp; try with_reducible rfl))
 (refine wpAnyC_take (i := 14) (v := ?_) hFi2 rfl (by kernel_rfl) (by kernel_rfl) (by kernel_rfl) (fun _ _ _ h => h) (Or.inl ⟨by kernel_rfl, ?_⟩) ?_; rotate_left; (intro w hc; have k0 := hc.c0; have k1 := hc.c1; have k2 := hc.c2; have k3 := hc.c3; have kg := hc.ca; clear hc; go_simp; try with_reducible rfl))
 (refine wpAnyC_take (i := 15) (v := ?_) hFi2 rfl (by kernel_rfl) (by kernel_rfl) (by kernel_rfl) (fun _ _ _ h => h) (Or.inl ⟨by kernel_rfl, ?_⟩) ?_; rotate_left; (intro w hc; have k0 := hc.c0; have k1 := hc.c1; have k2 := hc.c2; have k3 := hc.c3; have kg := hc.ca; clear hc; go_simp; try with_reducible rfl))
 (refine wpAnyC_take (i := 16) (v := ?_) hFi2 rfl (by kernel_rfl) (by kernel_rfl) (by kernel_rfl) (fun _ _ _ h => h) (Or.inl ⟨by kernel_rfl, ?_⟩) ?_; rotate_left; (intro w hc; have k0 := hc.c0; have k1 := hc.c1; have k2 := hc.c2; have k3 := hc.c3; have kg := hc.ca; clear hc; go_simp; try with_reducible rfl))
 go_simp
 (refine wpAnyC_take (i := 17) (v := ?_) hFi2 rfl (by kernel_rfl) (by kernel_rfl) (by kernel_rfl) (fun _ _ _ h => h) (Or.inl ⟨by kernel_rfl, ?_⟩) ?_; rotate_left; (intro w hc; have k0 := hc.c0; have k1 := hc.c1; have k2 := hc.c2; have k3 := hc.c3; have kg := hc.ca; clear hc; go_simp; try with_reducible rfl))
 (refine wpAnyC_take (i := 18) (v := ?_) hFi2 rfl (by kernel_rfl) (by kernel_rfl) (by kernel_rfl) (fun _ _ _ h => h) (Or.inl ⟨by kernel_rfl, ?_⟩) ?_; rotate_left; (intro w hc; have k0 := hc.c0; have k1 := hc.c1; have k2 := hc.c2; have k3 := hc.c3; have kg := hc.ca; clear hc; go_simp; try with_reducible rfl))
 go_simp
 (refine wpAnyC_take (i := 19) (v := ?_) hFi2 rfl (by kernel_rfl) (by kernel_rfl) (by kernel_rfl) (fun _ _ _ h => h) (Or.inl ⟨by kernel_rfl, ?_⟩) ?_; rotate_left; (intro w hc; have k0 := hc.c0; have k1 := hc.c1; have k2 := hc.c2; have k3 := hc.c3; have kg := hc.ca; clear hc; go_simp; try with_reducible rfl))
 (refine wpAnyC_take (i := 20) (v := ?_) hFi2 rfl (by kernel_rfl) (by kernel_rfl) (by kernel_rfl) (fun _ _ _ h => h) (Or.inl ⟨by kernel_rfl, ?_⟩) ?_; rotate_left; (intro w hc; have k0 := hc.c0; have k1 := hc.c1; have k2 := hc.c2; have k3 := hc.c3; have kg := hc.ca; clear hc; go_simp; try with_reducible rfl))
 (refine wpAnyC_take (i := 21) (v := ?_) hFi2 rfl (by kernel_rfl) (by kernel_rfl) (by kernel_rfl) (fun _ _ _ h => h) (Or.inl ⟨by kernel_rfl, ?_⟩) ?_; rotate_left; (intro w hc; have k0 := hc.c0; have k1 := hc.c1; have k2 := hc.c2; have k3 := hc.c3; have kg := hc.ca; clear hc; go_simp; try with_reducible rfl))
 go_simp
 (refine wpAnyC_take (i := 22) (v := ?_) hFi2 rfl (by kernel_rfl) (by kernel_rfl) (by kernel_rfl) (fun _ _ _ h => h) (Or.inl ⟨by kernel_rfl, ?_⟩) ?_; rotate_left; (intro w hc; have k0 := hc.c0; have k1 := hc.c1; have k2 := hc.c2; have k3 := hc.c3; have kg := hc.ca; clear hc; go_simp; try with_reducible rfl))
 (refine wpAnyC_take (i := 23) (v := ?_) hFi2 rfl (by kernel_rfl) (by kernel_rfl) (by kernel_rfl) (fun _ _ _ h => h) (Or.inl ⟨by kernel_rfl, ?_⟩) ?_; rotate_left; (intro w hc; have k0 := hc.c0; have k1 := hc.c1; have k2 := hc.c2; have k3 := hc.c3; have kg := hc.ca; clear hc; go_simp; try with_reducible rfl))
 (refine wpAnyC_take (i := 24) (v := ?_) hFi2 rfl (by kernel_rfl) (by kernel_rfl) (by kernel_rfl) (fun _ _ _ h => h) (Or.inl ⟨by kernel_rfl, ?_⟩) ?_; rotate_left; (intro w hc; have k0 := hc.c0; have k1 := hc.c1; have k2 := hc.c2; have k3 := hc.c3; have kg := hc.ca; clear hc; go_simp; try with_reducible rfl))
 (refine wpAnyC_take (i := 25) (v := ?_) hFi2 rfl (by kernel_rfl) (by kernel_rfl) (by kernel_rfl) (fun _ _ _ h => h) (Or.inl ⟨by kernel_rfl, ?_⟩) ?_; rotate_left; (intro w hc; have k0 := hc.c0; have k1 := hc.c1; have k2 := hc.c2; have k3 := hc.c3; have kg := hc.ca; clear hc; go_simp; try with_reducible rfl))
 go_simp
 (refine wpAnyC_take (i := 26) (v := ?_) hFi2 rfl (by kernel_rfl) (by kernel_rfl) (by kernel_rfl) (fun _ _ _ h => h) (Or.inl ⟨by kernel_rfl, ?_⟩) ?_; rotate_left; (intro w hc; have k0 := hc.c0; have k1 := hc.c1; have k2 := hc.c2; have k3 := hc.c3; have kg := hc.ca; clear hc; go_simp; try with_reducible rfl))
 go_simp
 (refine wpAnyC_take (i := 27) (v := ?_) hFi2 rfl (by kernel_rfl) (by kernel_rfl) (by kernel_rfl) (fun _ _ _ h => h) (Or.inl ⟨by kernel_rfl, ?_⟩) ?_; rotate_left; (intro w hc; have k0 := hc.c0; have k1 := hc.c1; have k2 := hc.c2; have k3 := hc.c3; have kg := hc.ca; clear hc; go_simp; try with_reducible rfl))
 go_simp
 refine wpAnyC_done (by kernel_rfl) ?_ _
 have q2 := fun (w : World) => parent_any (mk n.path) (by rw [mk_size]; omega) w
 rw [tl_mk] at q2
 have hpl := parent_len n.path
 have c20 := hFi2.c0
 go_wp2_with fail
 refine (q2 _).mono ?_
 rintro e w3 ⟨rfl, hb3⟩
 have hB3 := hB2.trans (hb3.mono hB2.size)
 have q3 := look_any B A M L wt clk rm (parent n.path) w3 E (h.below hB3) (hG.keep (hB3.mono hB)) (Nat.le_trans hB hB3.size) (by omega)
 go_wp2_with fail
 cases hl : lookV L (parent n.path) with
 | bad k =>
  rw [hl] at q3
  refine q3.mono ?_
  rintro r w4 ⟨⟨b, rfl, hf⟩, hb4⟩
  go_wp2
  go_ret
  exact ⟨by rw [hl]; rfl, hB3.trans (hb4.mono hB3.size)⟩
 | non =>
  rw [hl] at q3
  refine q3.mono ?_
  rintro r w4 ⟨⟨b, rfl, hf⟩, hb4⟩
  go_wp2
  go_ret
  exact ⟨by rw [hl]; rfl, hB3.trans (hb4.mono hB3.size)⟩
 | rt =>
  rw [hl] at q3
  refine q3.mono ?_
  rintro r w4 ⟨⟨b, hbN, rfl, hn⟩, hb4⟩
  have c0 : w4.cell? ⟨b, 0, none⟩ = some (.bool true) := hn.c0
  go_wp2
  go_ret
  exact ⟨by rw [hl]; rfl, hB3.trans (hb4.mono hB3.size)⟩
 | is e =>
  rw [hl] at q3
  obtain ⟨k, hm⟩ := lookV_mem hl
  have hn : NodeAt w e := h.nodes _ hm
  refine q3.mono ?_
  rintro r w4 ⟨rfl, hb4⟩
  have hB4 := hB3.trans (hb4.mono hB3.size)
  have c0 := (hn.below hB4).c0
  cases hed : e.nd.dir with
  | true =>
   rw [hed] at c0
   go_wp2
   go_ret
   exact ⟨by rw [hl]; show _ = Ending.returned (.bool e.nd.dir); rw [hed]; rfl, hB4⟩
  | false =>
   rw [hed] at c0
   go_wp2
   go_ret
   exact ⟨by rw [hl]; show _ = Ending.returned (.bool e.nd.dir); rw [hed]; rfl, hB4⟩
theorem fits_any (B A M : Nat) (E : Addr) (L : Ents) (wt clk rm : Int) (n : Nv) (w : World) (h : FsAt w A M L wt clk rm) (hG : Glo B w E) (hB : B ≤ w.heap.size) (hp : n.path.length ≤ 400000) (hd : ∃ a cap, n.dv = .slice a n.nd.data.length cap) :
  Calls Tryz.prog 49 #[.pointer (some ⟨A, 0, none⟩), .agg #[.string (mk n.path), .bool n.nd.dir, .int .i64 n.nd.time, n.dv]] w fun r w' => r = .returned (.bool (fitB L clk n)) ∧ Below w.heap.size w w' := by
 have cA := h.fb.c2
 have hA := h.fb.lt
 unfold fitB fitB1
 cases hv : valid n.path with
 | false => simpa using fits_no1 A n clk w cA hA hp hd hv
 | true =>
  by_cases ht : n.nd.time < 0
  ·rw [decide_eq_false (by omega)]; simpa using fits_no2 A n clk w cA hA hp hd hv ht
  ·rw [decide_eq_true (show 0 ≤ n.nd.time by omega)]
   by_cases hc : clk < n.nd.time
   ·rw [decide_eq_false (show ¬ n.nd.time ≤ clk by omega)]; simpa using fits_no3 A n clk w cA hA hp hd hv ht hc
   ·rw [decide_eq_true (show n.nd.time ≤ clk by omega)]
    cases hdir : n.nd.dir with
    | false => have q := fits_yes4 B M E L wt rm A n clk w cA hA hp hd hv ht hc hdir h hG hB; rw [hdir] at q; simpa using q
    | true =>
     by_cases hln : 0 < n.nd.data.length
     ·have q := fits_no5 A n clk w cA hA hp hd hv ht hc hdir hln; rw [hdir] at q; rw [decide_eq_true hln]; simpa using q
     ·have q := fits_yes6 B M E L wt rm A n clk w cA hA hp hd hv ht hc hdir (by omega) h hG hB; rw [hdir] at q; rw [decide_eq_false hln]; simpa using q
end Go.Proofs.YtabmnkddmdffkaaGreatDoor
