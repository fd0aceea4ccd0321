/- archive. -/
import Derived.Test.YtbfchadcpokjoaaGreatDoorAXb
import Derived.Test.YtbfchadcpokjoaaGreatDoorAXc
import Derived.Test.YtbfchadcpokjoaaGreatDoorAZu
import Derived.ScopeJumps
namespace Go.Proofs.YtbfchadcpokjoaaGreatDoor
open Go.RowKit Go.Maps

structure ArC (C g o n c : Nat) (p : Bs) (w : World) : Prop where
  c1 : w.cell? ⟨C, 1, none⟩ = some (.slice (some ⟨g, o, none⟩) n c)
  x1 : w.cell? ⟨g, o + 1, none⟩ = some (.string (mk p))
theorem tail_two (w : World) (g o c n : Nat) (x p : Bs) (fs : List Bs) (hn : fs.length + 2 = n) (h2 : n ≤ c) (h3 : g < w.heap.size) (h4 : ∀ (i : Nat) u, (x :: p :: fs)[i]? = some u → w.cell? ⟨g, o + i, none⟩ = some (.string (mk u))) :
    ∃ a c', (∀ W : World, (Instr.slice 24 (.slice (some ⟨g, o, none⟩) n c) (some (.int .i64 2)) none none).run Tryz.prog W = .ok (.slice a fs.length c') W) ∧ ∀ W : World, Below w.heap.size w W → Txs W (.slice a fs.length c') fs := by
  obtain ⟨i, hi, hz0, hz1, hz2⟩ := info_parts info9
  subst hn
  refine ⟨some (if c = 2 then ⟨g, o, none⟩ else ⟨g, o + 2, none⟩), c - 2, fun W => ?_, fun W hb => ?_⟩
  · by_cases hck : c = 2
    · simp [Instr.slice, Instr.sliceBounds, Instr.sliceBound, run_underlying Tryz.underlying24, asIntOf, sizeOf, typeInfo, hi, hck]; omega
    · simp [Instr.slice, Instr.sliceBounds, Instr.sliceBound, run_underlying Tryz.underlying24, asIntOf, sizeOf, typeInfo, hi, hz1, hck, Addr.add_lit]; omega
  · cases fs with
    | nil => exact .inl ⟨_, _, rfl, rfl⟩
    | cons y r =>
      simp only [List.length_cons] at h2
      rw [if_neg (by omega)]
      exact .inr ⟨g, o + 2, c - 2, rfl, by simp only [List.length_cons]; omega, Nat.lt_of_lt_of_le h3 hb.size, fun j u hj => by
        have := h4 (j + 2) u (by simpa using hj)
        rw [show o + 2 + j = o + (j + 2) by omega]; exact (hb.cell (p := ⟨g, o + (j + 2), none⟩) h3).trans this⟩
theorem cf_rc (xs : Array Value) (W : World) : (callFunc 99 xs).run Tryz.prog W = .ok (.enter 99 xs) W := by kernel_rfl
set_option maxRecDepth 100000 in
set_option maxHeartbeats 2000000 in
theorem archive_rc (C : Nat) (p : Bs) (fs : List Bs) (fv y iv ov : Value) (w : World) (hC : CallAt w C fv y iv ov) (hy : Txs w y ([114, 99] :: p :: fs)) (P : Int → World → Prop)
    (hq : ∀ (W : World) (lv : Value), Below w.heap.size w W → Txs W lv fs → Calls Tryz.prog 99 #[.pointer (some ⟨C, 0, none⟩), .string (mk p), lv] W fun r w' => ∃ ev st, r = .returned ev ∧ ((ev = .nilIface ∧ st = 0) ∨ ∃ g, ev = .iface 174 (.pointer (some ⟨g, 0, none⟩)) ∧ st = 1) ∧ P st w') :
    Calls Tryz.prog 55 #[.pointer (some ⟨C, 0, none⟩)] w fun r w' => ∃ st, r = .returned (.int .i64 st) ∧ P st w' := by
  rcases hy with ⟨_, _, _, hbad⟩ | ⟨g, o, c, rfl, h2, h3, h4⟩
  · cases hbad
  have x0 : w.cell? ⟨g, o, none⟩ = some (.string (mk [114, 99])) := h4 0 _ rfl
  have x1 : w.cell? ⟨g, o + 1, none⟩ = some (.string (mk p)) := h4 1 _ rfl
  obtain ⟨n, hn⟩ : ∃ n, fs.length + 2 = n := ⟨_, rfl⟩
  have h2' : n ≤ c := by simp only [List.length_cons] at h2; omega
  obtain ⟨sa, sc, hsl, hT⟩ := tail_two w g o c n _ p fs hn h2' h3 h4
  have c1 : w.cell? ⟨C, 1, none⟩ = some (.slice (some ⟨g, o, none⟩) n c) := by rw [Lib.cell_of_heap hC, ← hn]; rfl
  have hnn : ¬ (n : Int) < 2 := by omega
  have hn1 : (1 : Int) < n := by omega
  have hcf := cf_rc
  dsimp only [mk] at x0
  have HQ := hide' hq
  have HT := hide' hT
  have HC0 : Hid (∀ W, Below w.heap.size w W → ArC C g o n c p W) := hide' fun W hb => ⟨(hb.cell (p := ⟨C, 1, none⟩) (lt_of_block hC)).trans c1, (hb.cell (p := ⟨g, o + 1, none⟩) h3).trans x1⟩
  clear h4 hC hq hT h2 hn
  generalize fs.length = fl at hsl HT
  go_enter Tryz.func55, Tryz.ntmps55
  go_wp2_with fail
  go_step3
  go_wp2_with fail
  refine wp_region_classX [13, 14, 15] (C := ArC C g o n c p) (by kernel_rfl) ?_
  have hb0 : Below w.heap.size w w.drew := below_drewn (B := w.heap.size) (w := w) 1
  have HB0 := hide' hb0
  clear hb0 x0 x1 c1
  (refine wpAnyX_take (i := 0) (v := ?_) (HC0.out _ HB0.out) rfl (by kernel_rfl) (by kernel_rfl) (by kernel_rfl) (by kernel_rfl) (fun _ _ _ h => h) (Or.inl ⟨by kernel_rfl, ?_⟩) ?_; rotate_left; (intro w hc; have k0 := hc.c1; have k1 := hc.x1; clear hc; go_simp; try with_reducible rfl))
  go_simp
  (refine wpAnyX_take (i := 1) (v := ?_) (HC0.out _ HB0.out) rfl (by kernel_rfl) (by kernel_rfl) (by kernel_rfl) (by kernel_rfl) (fun _ _ _ h => h) (Or.inl ⟨by kernel_rfl, ?_⟩) ?_; rotate_left; (intro w hc; have k0 := hc.c1; have k1 := hc.x1; clear hc; go_simp; try with_reducible rfl))
  go_simp
  (refine wpAnyX_take (i := 2) (v := ?_) (HC0.out _ HB0.out) rfl (by kernel_rfl) (by kernel_rfl) (by kernel_rfl) (by kernel_rfl) (fun _ _ _ h => h) (Or.inl ⟨by kernel_rfl, ?_⟩) ?_; rotate_left; (intro w hc; have k0 := hc.c1; have k1 := hc.x1; clear hc; go_simp; try with_reducible rfl))
  go_simp
  (refine wpAnyX_take (i := 3) (v := ?_) (HC0.out _ HB0.out) rfl (by kernel_rfl) (by kernel_rfl) (by kernel_rfl) (by kernel_rfl) (fun _ _ _ h => h) (Or.inl ⟨by kernel_rfl, ?_⟩) ?_; rotate_left; (intro w hc; have k0 := hc.c1; have k1 := hc.x1; clear hc; go_simp; try with_reducible rfl))
  go_simp
  (refine wpAnyX_take (i := 4) (v := ?_) (HC0.out _ HB0.out) rfl (by kernel_rfl) (by kernel_rfl) (by kernel_rfl) (by kernel_rfl) (fun _ _ _ h => h) (Or.inl ⟨by kernel_rfl, ?_⟩) ?_; rotate_left; (intro w hc; have k0 := hc.c1; have k1 := hc.x1; clear hc; go_simp; try with_reducible rfl))
  go_simp
  (refine wpAnyX_take (i := 5) (v := ?_) (HC0.out _ HB0.out) rfl (by kernel_rfl) (by kernel_rfl) (by kernel_rfl) (by kernel_rfl) (fun _ _ _ h => h) (Or.inl ⟨by kernel_rfl, ?_⟩) ?_; rotate_left; (intro w hc; have k0 := hc.c1; have k1 := hc.x1; clear hc; go_simp; try with_reducible rfl))
  go_simp
  (refine wpAnyX_take (i := 6) (v := ?_) (HC0.out _ HB0.out) rfl (by kernel_rfl) (by kernel_rfl) (by kernel_rfl) (by kernel_rfl) (fun _ _ _ h => h) (Or.inl ⟨by kernel_rfl, ?_⟩) ?_; rotate_left; (intro w hc; have k0 := hc.c1; have k1 := hc.x1; clear hc; go_simp; try with_reducible rfl))
  go_simp
  (refine wpAnyX_take (i := 7) (v := ?_) (HC0.out _ HB0.out) rfl (by kernel_rfl) (by kernel_rfl) (by kernel_rfl) (by kernel_rfl) (fun _ _ _ h => h) (Or.inl ⟨by kernel_rfl, ?_⟩) ?_; rotate_left; (intro w hc; have k0 := hc.c1; have k1 := hc.x1; clear hc; go_simp; try with_reducible rfl))
  go_simp
  (refine wpAnyX_take (i := 8) (v := ?_) (HC0.out _ HB0.out) rfl (by kernel_rfl) (by kernel_rfl) (by kernel_rfl) (by kernel_rfl) (fun _ _ _ h => h) (Or.inl ⟨by kernel_rfl, ?_⟩) ?_; rotate_left; (intro w hc; have k0 := hc.c1; have k1 := hc.x1; clear hc; go_simp; try with_reducible rfl))
  go_simp
  (refine wpAnyX_take (i := 9) (v := ?_) (HC0.out _ HB0.out) rfl (by kernel_rfl) (by kernel_rfl) (by kernel_rfl) (by kernel_rfl) (fun _ _ _ h => h) (Or.inl ⟨by kernel_rfl, ?_⟩) ?_; rotate_left; (intro w hc; have k0 := hc.c1; have k1 := hc.x1; clear hc; go_simp; try with_reducible rfl))
  go_simp
  (refine wpAnyX_take (i := 10) (v := ?_) (HC0.out _ HB0.out) rfl (by kernel_rfl) (by kernel_rfl) (by kernel_rfl) (by kernel_rfl) (fun _ _ _ h => h) (Or.inl ⟨by kernel_rfl, ?_⟩) ?_; rotate_left; (intro w hc; have k0 := hc.c1; have k1 := hc.x1; clear hc; go_simp; try with_reducible rfl))
  go_simp
  (refine wpAnyX_take (i := 11) (v := ?_) (HC0.out _ HB0.out) rfl (by kernel_rfl) (by kernel_rfl) (by kernel_rfl) (by kernel_rfl) (fun _ _ _ h => h) (Or.inl ⟨by kernel_rfl, ?_⟩) ?_; rotate_left; (intro w hc; have k0 := hc.c1; have k1 := hc.x1; clear hc; go_simp; try with_reducible rfl))
  go_simp
  (refine wpAnyX_take (i := 12) (v := ?_) (HC0.out _ HB0.out) rfl (by kernel_rfl) (by kernel_rfl) (by kernel_rfl) (by kernel_rfl) (fun _ _ _ h => h) (Or.inl ⟨by kernel_rfl, ?_⟩) ?_; rotate_left; (intro w hc; have k0 := hc.c1; have k1 := hc.x1; clear hc; go_simp; try with_reducible rfl))
  go_simp
  refine wpAnyX_one (i := 13) (by kernel_rfl) (wpOp_wanted rfl (by rfl) ?_)
  go_simp
  refine (HQ.out _ _ HB0.out (HT.out _ HB0.out)).mono ?_
  rintro r w2 ⟨ev, st, rfl, hev, hP⟩
  have HP := hide' hP
  clear hP HQ HT
  go_simp
  refine wpAnyX_one (i := 14) (by kernel_rfl) (wpOp_wanted rfl (by rfl) ?_)
  go_simp
  have hst : Calls Tryz.prog 103 #[ev] w2 fun r w' => r = .returned (.int .i64 st) ∧ w' = w2 := by
    rcases hev with ⟨rfl, rfl⟩ | ⟨g, rfl, rfl⟩
    · exact status_ok w2
    · exact status_flt g w2
  refine hst.mono ?_
  rintro r w3 ⟨rfl, rfl⟩
  clear hst hev
  go_simp
  refine wpAnyX_one (i := 15) (by kernel_rfl) (wpOp_wanted rfl (by rfl) ?_)
  go_simp
  refine wpAnyX_done (by kernel_rfl) ?_ _
  go_wp2
  go_step3
  go_wp2
  try rw [Exit.noGoto_ret]
  go_ret
  exact ⟨st, rfl, HP.out⟩
theorem cf_r (xs : Array Value) (W : World) : (callFunc 99 xs).run Tryz.prog W = .ok (.enter 99 xs) W := by kernel_rfl
set_option maxRecDepth 100000 in
set_option maxHeartbeats 2000000 in
theorem archive_r (C : Nat) (p : Bs) (fs : List Bs) (fv y iv ov : Value) (w : World) (hC : CallAt w C fv y iv ov) (hy : Txs w y ([114] :: p :: fs)) (P : Int → World → Prop)
    (hq : ∀ (W : World) (lv : Value), Below w.heap.size w W → Txs W lv fs → Calls Tryz.prog 99 #[.pointer (some ⟨C, 0, none⟩), .string (mk p), lv] W fun r w' => ∃ ev st, r = .returned ev ∧ ((ev = .nilIface ∧ st = 0) ∨ ∃ g, ev = .iface 174 (.pointer (some ⟨g, 0, none⟩)) ∧ st = 1) ∧ P st w') :
    Calls Tryz.prog 55 #[.pointer (some ⟨C, 0, none⟩)] w fun r w' => ∃ st, r = .returned (.int .i64 st) ∧ P st w' := by
  rcases hy with ⟨_, _, _, hbad⟩ | ⟨g, o, c, rfl, h2, h3, h4⟩
  · cases hbad
  have x0 : w.cell? ⟨g, o, none⟩ = some (.string (mk [114])) := h4 0 _ rfl
  have x1 : w.cell? ⟨g, o + 1, none⟩ = some (.string (mk p)) := h4 1 _ rfl
  obtain ⟨n, hn⟩ : ∃ n, fs.length + 2 = n := ⟨_, rfl⟩
  have h2' : n ≤ c := by simp only [List.length_cons] at h2; omega
  obtain ⟨sa, sc, hsl, hT⟩ := tail_two w g o c n _ p fs hn h2' h3 h4
  have c1 : w.cell? ⟨C, 1, none⟩ = some (.slice (some ⟨g, o, none⟩) n c) := by rw [Lib.cell_of_heap hC, ← hn]; rfl
  have hnn : ¬ (n : Int) < 2 := by omega
  have hn1 : (1 : Int) < n := by omega
  have hcf := cf_r
  dsimp only [mk] at x0
  have HQ := hide' hq
  have HT := hide' hT
  have HC0 : Hid (∀ W, Below w.heap.size w W → ArC C g o n c p W) := hide' fun W hb => ⟨(hb.cell (p := ⟨C, 1, none⟩) (lt_of_block hC)).trans c1, (hb.cell (p := ⟨g, o + 1, none⟩) h3).trans x1⟩
  clear h4 hC hq hT h2 hn
  generalize fs.length = fl at hsl HT
  go_enter Tryz.func55, Tryz.ntmps55
  go_wp2_with fail
  go_step3
  go_wp2_with fail
  refine wp_region_classX [13, 14, 15] (C := ArC C g o n c p) (by kernel_rfl) ?_
  have hb0 : Below w.heap.size w w.drew := below_drewn (B := w.heap.size) (w := w) 1
  have HB0 := hide' hb0
  clear hb0 x0 x1 c1
  (refine wpAnyX_take (i := 0) (v := ?_) (HC0.out _ HB0.out) rfl (by kernel_rfl) (by kernel_rfl) (by kernel_rfl) (by kernel_rfl) (fun _ _ _ h => h) (Or.inl ⟨by kernel_rfl, ?_⟩) ?_; rotate_left; (intro w hc; have k0 := hc.c1; have k1 := hc.x1; clear hc; go_simp; try with_reducible rfl))
  go_simp
  (refine wpAnyX_take (i := 1) (v := ?_) (HC0.out _ HB0.out) rfl (by kernel_rfl) (by kernel_rfl) (by kernel_rfl) (by kernel_rfl) (fun _ _ _ h => h) (Or.inl ⟨by kernel_rfl, ?_⟩) ?_; rotate_left; (intro w hc; have k0 := hc.c1; have k1 := hc.x1; clear hc; go_simp; try with_reducible rfl))
  go_simp
  (refine wpAnyX_take (i := 2) (v := ?_) (HC0.out _ HB0.out) rfl (by kernel_rfl) (by kernel_rfl) (by kernel_rfl) (by kernel_rfl) (fun _ _ _ h => h) (Or.inl ⟨by kernel_rfl, ?_⟩) ?_; rotate_left; (intro w hc; have k0 := hc.c1; have k1 := hc.x1; clear hc; go_simp; try with_reducible rfl))
  go_simp
  (refine wpAnyX_take (i := 3) (v := ?_) (HC0.out _ HB0.out) rfl (by kernel_rfl) (by kernel_rfl) (by kernel_rfl) (by kernel_rfl) (fun _ _ _ h => h) (Or.inl ⟨by kernel_rfl, ?_⟩) ?_; rotate_left; (intro w hc; have k0 := hc.c1; have k1 := hc.x1; clear hc; go_simp; try with_reducible rfl))
  go_simp
  (refine wpAnyX_take (i := 4) (v := ?_) (HC0.out _ HB0.out) rfl (by kernel_rfl) (by kernel_rfl) (by kernel_rfl) (by kernel_rfl) (fun _ _ _ h => h) (Or.inl ⟨by kernel_rfl, ?_⟩) ?_; rotate_left; (intro w hc; have k0 := hc.c1; have k1 := hc.x1; clear hc; go_simp; try with_reducible rfl))
  go_simp
  (refine wpAnyX_take (i := 5) (v := ?_) (HC0.out _ HB0.out) rfl (by kernel_rfl) (by kernel_rfl) (by kernel_rfl) (by kernel_rfl) (fun _ _ _ h => h) (Or.inl ⟨by kernel_rfl, ?_⟩) ?_; rotate_left; (intro w hc; have k0 := hc.c1; have k1 := hc.x1; clear hc; go_simp; try with_reducible rfl))
  go_simp
  (refine wpAnyX_take (i := 6) (v := ?_) (HC0.out _ HB0.out) rfl (by kernel_rfl) (by kernel_rfl) (by kernel_rfl) (by kernel_rfl) (fun _ _ _ h => h) (Or.inl ⟨by kernel_rfl, ?_⟩) ?_; rotate_left; (intro w hc; have k0 := hc.c1; have k1 := hc.x1; clear hc; go_simp; try with_reducible rfl))
  go_simp
  (refine wpAnyX_take (i := 7) (v := ?_) (HC0.out _ HB0.out) rfl (by kernel_rfl) (by kernel_rfl) (by kernel_rfl) (by kernel_rfl) (fun _ _ _ h => h) (Or.inl ⟨by kernel_rfl, ?_⟩) ?_; rotate_left; (intro w hc; have k0 := hc.c1; have k1 := hc.x1; clear hc; go_simp; try with_reducible rfl))
  go_simp
  (refine wpAnyX_take (i := 8) (v := ?_) (HC0.out _ HB0.out) rfl (by kernel_rfl) (by kernel_rfl) (by kernel_rfl) (by kernel_rfl) (fun _ _ _ h => h) (Or.inl ⟨by kernel_rfl, ?_⟩) ?_; rotate_left; (intro w hc; have k0 := hc.c1; have k1 := hc.x1; clear hc; go_simp; try with_reducible rfl))
  go_simp
  (refine wpAnyX_take (i := 9) (v := ?_) (HC0.out _ HB0.out) rfl (by kernel_rfl) (by kernel_rfl) (by kernel_rfl) (by kernel_rfl) (fun _ _ _ h => h) (Or.inl ⟨by kernel_rfl, ?_⟩) ?_; rotate_left; (intro w hc; have k0 := hc.c1; have k1 := hc.x1; clear hc; go_simp; try with_reducible rfl))
  go_simp
  (refine wpAnyX_take (i := 10) (v := ?_) (HC0.out _ HB0.out) rfl (by kernel_rfl) (by kernel_rfl) (by kernel_rfl) (by kernel_rfl) (fun _ _ _ h => h) (Or.inl ⟨by kernel_rfl, ?_⟩) ?_; rotate_left; (intro w hc; have k0 := hc.c1; have k1 := hc.x1; clear hc; go_simp; try with_reducible rfl))
  go_simp
  (refine wpAnyX_take (i := 11) (v := ?_) (HC0.out _ HB0.out) rfl (by kernel_rfl) (by kernel_rfl) (by kernel_rfl) (by kernel_rfl) (fun _ _ _ h => h) (Or.inl ⟨by kernel_rfl, ?_⟩) ?_; rotate_left; (intro w hc; have k0 := hc.c1; have k1 := hc.x1; clear hc; go_simp; try with_reducible rfl))
  go_simp
  (refine wpAnyX_take (i := 12) (v := ?_) (HC0.out _ HB0.out) rfl (by kernel_rfl) (by kernel_rfl) (by kernel_rfl) (by kernel_rfl) (fun _ _ _ h => h) (Or.inl ⟨by kernel_rfl, ?_⟩) ?_; rotate_left; (intro w hc; have k0 := hc.c1; have k1 := hc.x1; clear hc; go_simp; try with_reducible rfl))
  go_simp
  refine wpAnyX_one (i := 13) (by kernel_rfl) (wpOp_wanted rfl (by rfl) ?_)
  go_simp
  refine (HQ.out _ _ HB0.out (HT.out _ HB0.out)).mono ?_
  rintro r w2 ⟨ev, st, rfl, hev, hP⟩
  have HP := hide' hP
  clear hP HQ HT
  go_simp
  refine wpAnyX_one (i := 14) (by kernel_rfl) (wpOp_wanted rfl (by rfl) ?_)
  go_simp
  have hst : Calls Tryz.prog 103 #[ev] w2 fun r w' => r = .returned (.int .i64 st) ∧ w' = w2 := by
    rcases hev with ⟨rfl, rfl⟩ | ⟨g, rfl, rfl⟩
    · exact status_ok w2
    · exact status_flt g w2
  refine hst.mono ?_
  rintro r w3 ⟨rfl, rfl⟩
  clear hst hev
  go_simp
  refine wpAnyX_one (i := 15) (by kernel_rfl) (wpOp_wanted rfl (by rfl) ?_)
  go_simp
  refine wpAnyX_done (by kernel_rfl) ?_ _
  go_wp2
  go_step3
  go_wp2
  try rw [Exit.noGoto_ret]
  go_ret
  exact ⟨st, rfl, HP.out⟩
theorem cf_t (xs : Array Value) (W : World) : (callFunc 100 xs).run Tryz.prog W = .ok (.enter 100 xs) W := by kernel_rfl
set_option maxRecDepth 100000 in
set_option maxHeartbeats 2000000 in
theorem archive_t (C : Nat) (p : Bs) (fs : List Bs) (fv y iv ov : Value) (w : World) (hC : CallAt w C fv y iv ov) (hy : Txs w y ([116] :: p :: fs)) (P : Int → World → Prop)
    (hq : ∀ (W : World) (lv : Value), Below w.heap.size w W → Txs W lv fs → Calls Tryz.prog 100 #[.pointer (some ⟨C, 0, none⟩), .string (mk p), lv] W fun r w' => ∃ ev st, r = .returned ev ∧ ((ev = .nilIface ∧ st = 0) ∨ ∃ g, ev = .iface 174 (.pointer (some ⟨g, 0, none⟩)) ∧ st = 1) ∧ P st w') :
    Calls Tryz.prog 55 #[.pointer (some ⟨C, 0, none⟩)] w fun r w' => ∃ st, r = .returned (.int .i64 st) ∧ P st w' := by
  rcases hy with ⟨_, _, _, hbad⟩ | ⟨g, o, c, rfl, h2, h3, h4⟩
  · cases hbad
  have x0 : w.cell? ⟨g, o, none⟩ = some (.string (mk [116])) := h4 0 _ rfl
  have x1 : w.cell? ⟨g, o + 1, none⟩ = some (.string (mk p)) := h4 1 _ rfl
  obtain ⟨n, hn⟩ : ∃ n, fs.length + 2 = n := ⟨_, rfl⟩
  have h2' : n ≤ c := by simp only [List.length_cons] at h2; omega
  obtain ⟨sa, sc, hsl, hT⟩ := tail_two w g o c n _ p fs hn h2' h3 h4
  have c1 : w.cell? ⟨C, 1, none⟩ = some (.slice (some ⟨g, o, none⟩) n c) := by rw [Lib.cell_of_heap hC, ← hn]; rfl
  have hnn : ¬ (n : Int) < 2 := by omega
  have hn1 : (1 : Int) < n := by omega
  have hcf := cf_t
  dsimp only [mk] at x0
  have HQ := hide' hq
  have HT := hide' hT
  have HC0 : Hid (∀ W, Below w.heap.size w W → ArC C g o n c p W) := hide' fun W hb => ⟨(hb.cell (p := ⟨C, 1, none⟩) (lt_of_block hC)).trans c1, (hb.cell (p := ⟨g, o + 1, none⟩) h3).trans x1⟩
  clear h4 hC hq hT h2 hn
  generalize fs.length = fl at hsl HT
  go_enter Tryz.func55, Tryz.ntmps55
  go_wp2_with fail
  go_step3
  go_wp2_with fail
  refine wp_region_classX [13, 14, 15] (C := ArC C g o n c p) (by kernel_rfl) ?_
  have hb0 : Below w.heap.size w w.drew := below_drewn (B := w.heap.size) (w := w) 1
  have HB0 := hide' hb0
  clear hb0 x0 x1 c1
  (refine wpAnyX_take (i := 0) (v := ?_) (HC0.out _ HB0.out) rfl (by kernel_rfl) (by kernel_rfl) (by kernel_rfl) (by kernel_rfl) (fun _ _ _ h => h) (Or.inl ⟨by kernel_rfl, ?_⟩) ?_; rotate_left; (intro w hc; have k0 := hc.c1; have k1 := hc.x1; clear hc; go_simp; try with_reducible rfl))
  go_simp
  (refine wpAnyX_take (i := 1) (v := ?_) (HC0.out _ HB0.out) rfl (by kernel_rfl) (by kernel_rfl) (by kernel_rfl) (by kernel_rfl) (fun _ _ _ h => h) (Or.inl ⟨by kernel_rfl, ?_⟩) ?_; rotate_left; (intro w hc; have k0 := hc.c1; have k1 := hc.x1; clear hc; go_simp; try with_reducible rfl))
  go_simp
  (refine wpAnyX_take (i := 2) (v := ?_) (HC0.out _ HB0.out) rfl (by kernel_rfl) (by kernel_rfl) (by kernel_rfl) (by kernel_rfl) (fun _ _ _ h => h) (Or.inl ⟨by kernel_rfl, ?_⟩) ?_; rotate_left; (intro w hc; have k0 := hc.c1; have k1 := hc.x1; clear hc; go_simp; try with_reducible rfl))
  go_simp
  (refine wpAnyX_take (i := 3) (v := ?_) (HC0.out _ HB0.out) rfl (by kernel_rfl) (by kernel_rfl) (by kernel_rfl) (by kernel_rfl) (fun _ _ _ h => h) (Or.inl ⟨by kernel_rfl, ?_⟩) ?_; rotate_left; (intro w hc; have k0 := hc.c1; have k1 := hc.x1; clear hc; go_simp; try with_reducible rfl))
  go_simp
  (refine wpAnyX_take (i := 4) (v := ?_) (HC0.out _ HB0.out) rfl (by kernel_rfl) (by kernel_rfl) (by kernel_rfl) (by kernel_rfl) (fun _ _ _ h => h) (Or.inl ⟨by kernel_rfl, ?_⟩) ?_; rotate_left; (intro w hc; have k0 := hc.c1; have k1 := hc.x1; clear hc; go_simp; try with_reducible rfl))
  go_simp
  (refine wpAnyX_take (i := 5) (v := ?_) (HC0.out _ HB0.out) rfl (by kernel_rfl) (by kernel_rfl) (by kernel_rfl) (by kernel_rfl) (fun _ _ _ h => h) (Or.inl ⟨by kernel_rfl, ?_⟩) ?_; rotate_left; (intro w hc; have k0 := hc.c1; have k1 := hc.x1; clear hc; go_simp; try with_reducible rfl))
  go_simp
  (refine wpAnyX_take (i := 6) (v := ?_) (HC0.out _ HB0.out) rfl (by kernel_rfl) (by kernel_rfl) (by kernel_rfl) (by kernel_rfl) (fun _ _ _ h => h) (Or.inl ⟨by kernel_rfl, ?_⟩) ?_; rotate_left; (intro w hc; have k0 := hc.c1; have k1 := hc.x1; clear hc; go_simp; try with_reducible rfl))
  go_simp
  (refine wpAnyX_take (i := 7) (v := ?_) (HC0.out _ HB0.out) rfl (by kernel_rfl) (by kernel_rfl) (by kernel_rfl) (by kernel_rfl) (fun _ _ _ h => h) (Or.inl ⟨by kernel_rfl, ?_⟩) ?_; rotate_left; (intro w hc; have k0 := hc.c1; have k1 := hc.x1; clear hc; go_simp; try with_reducible rfl))
  go_simp
  (refine wpAnyX_take (i := 8) (v := ?_) (HC0.out _ HB0.out) rfl (by kernel_rfl) (by kernel_rfl) (by kernel_rfl) (by kernel_rfl) (fun _ _ _ h => h) (Or.inl ⟨by kernel_rfl, ?_⟩) ?_; rotate_left; (intro w hc; have k0 := hc.c1; have k1 := hc.x1; clear hc; go_simp; try with_reducible rfl))
  go_simp
  (refine wpAnyX_take (i := 9) (v := ?_) (HC0.out _ HB0.out) rfl (by kernel_rfl) (by kernel_rfl) (by kernel_rfl) (by kernel_rfl) (fun _ _ _ h => h) (Or.inl ⟨by kernel_rfl, ?_⟩) ?_; rotate_left; (intro w hc; have k0 := hc.c1; have k1 := hc.x1; clear hc; go_simp; try with_reducible rfl))
  go_simp
  (refine wpAnyX_take (i := 10) (v := ?_) (HC0.out _ HB0.out) rfl (by kernel_rfl) (by kernel_rfl) (by kernel_rfl) (by kernel_rfl) (fun _ _ _ h => h) (Or.inl ⟨by kernel_rfl, ?_⟩) ?_; rotate_left; (intro w hc; have k0 := hc.c1; have k1 := hc.x1; clear hc; go_simp; try with_reducible rfl))
  go_simp
  (refine wpAnyX_take (i := 11) (v := ?_) (HC0.out _ HB0.out) rfl (by kernel_rfl) (by kernel_rfl) (by kernel_rfl) (by kernel_rfl) (fun _ _ _ h => h) (Or.inl ⟨by kernel_rfl, ?_⟩) ?_; rotate_left; (intro w hc; have k0 := hc.c1; have k1 := hc.x1; clear hc; go_simp; try with_reducible rfl))
  go_simp
  (refine wpAnyX_take (i := 12) (v := ?_) (HC0.out _ HB0.out) rfl (by kernel_rfl) (by kernel_rfl) (by kernel_rfl) (by kernel_rfl) (fun _ _ _ h => h) (Or.inl ⟨by kernel_rfl, ?_⟩) ?_; rotate_left; (intro w hc; have k0 := hc.c1; have k1 := hc.x1; clear hc; go_simp; try with_reducible rfl))
  go_simp
  refine wpAnyX_one (i := 13) (by kernel_rfl) (wpOp_wanted rfl (by rfl) ?_)
  go_simp
  refine (HQ.out _ _ HB0.out (HT.out _ HB0.out)).mono ?_
  rintro r w2 ⟨ev, st, rfl, hev, hP⟩
  have HP := hide' hP
  clear hP HQ HT
  go_simp
  refine wpAnyX_one (i := 14) (by kernel_rfl) (wpOp_wanted rfl (by rfl) ?_)
  go_simp
  have hst : Calls Tryz.prog 103 #[ev] w2 fun r w' => r = .returned (.int .i64 st) ∧ w' = w2 := by
    rcases hev with ⟨rfl, rfl⟩ | ⟨g, rfl, rfl⟩
    · exact status_ok w2
    · exact status_flt g w2
  refine hst.mono ?_
  rintro r w3 ⟨rfl, rfl⟩
  clear hst hev
  go_simp
  refine wpAnyX_one (i := 15) (by kernel_rfl) (wpOp_wanted rfl (by rfl) ?_)
  go_simp
  refine wpAnyX_done (by kernel_rfl) ?_ _
  go_wp2
  go_step3
  go_wp2
  try rw [Exit.noGoto_ret]
  go_ret
  exact ⟨st, rfl, HP.out⟩
theorem cf_p (xs : Array Value) (W : World) : (callFunc 101 xs).run Tryz.prog W = .ok (.enter 101 xs) W := by kernel_rfl
set_option maxRecDepth 100000 in
set_option maxHeartbeats 2000000 in
theorem archive_p (C : Nat) (p : Bs) (fs : List Bs) (fv y iv ov : Value) (w : World) (hC : CallAt w C fv y iv ov) (hy : Txs w y ([112] :: p :: fs)) (P : Int → World → Prop)
    (hq : ∀ (W : World) (lv : Value), Below w.heap.size w W → Txs W lv fs → Calls Tryz.prog 101 #[.pointer (some ⟨C, 0, none⟩), .string (mk p), lv] W fun r w' => ∃ ev st, r = .returned ev ∧ ((ev = .nilIface ∧ st = 0) ∨ ∃ g, ev = .iface 174 (.pointer (some ⟨g, 0, none⟩)) ∧ st = 1) ∧ P st w') :
    Calls Tryz.prog 55 #[.pointer (some ⟨C, 0, none⟩)] w fun r w' => ∃ st, r = .returned (.int .i64 st) ∧ P st w' := by
  rcases hy with ⟨_, _, _, hbad⟩ | ⟨g, o, c, rfl, h2, h3, h4⟩
  · cases hbad
  have x0 : w.cell? ⟨g, o, none⟩ = some (.string (mk [112])) := h4 0 _ rfl
  have x1 : w.cell? ⟨g, o + 1, none⟩ = some (.string (mk p)) := h4 1 _ rfl
  obtain ⟨n, hn⟩ : ∃ n, fs.length + 2 = n := ⟨_, rfl⟩
  have h2' : n ≤ c := by simp only [List.length_cons] at h2; omega
  obtain ⟨sa, sc, hsl, hT⟩ := tail_two w g o c n _ p fs hn h2' h3 h4
  have c1 : w.cell? ⟨C, 1, none⟩ = some (.slice (some ⟨g, o, none⟩) n c) := by rw [Lib.cell_of_heap hC, ← hn]; rfl
  have hnn : ¬ (n : Int) < 2 := by omega
  have hn1 : (1 : Int) < n := by omega
  have hcf := cf_p
  dsimp only [mk] at x0
  have HQ := hide' hq
  have HT := hide' hT
  have HC0 : Hid (∀ W, Below w.heap.size w W → ArC C g o n c p W) := hide' fun W hb => ⟨(hb.cell (p := ⟨C, 1, none⟩) (lt_of_block hC)).trans c1, (hb.cell (p := ⟨g, o + 1, none⟩) h3).trans x1⟩
  clear h4 hC hq hT h2 hn
  generalize fs.length = fl at hsl HT
  go_enter Tryz.func55, Tryz.ntmps55
  go_wp2_with fail
  go_step3
  go_wp2_with fail
  refine wp_region_classX [13, 14, 15] (C := ArC C g o n c p) (by kernel_rfl) ?_
  have hb0 : Below w.heap.size w w.drew := below_drewn (B := w.heap.size) (w := w) 1
  have HB0 := hide' hb0
  clear hb0 x0 x1 c1
  (refine wpAnyX_take (i := 0) (v := ?_) (HC0.out _ HB0.out) rfl (by kernel_rfl) (by kernel_rfl) (by kernel_rfl) (by kernel_rfl) (fun _ _ _ h => h) (Or.inl ⟨by kernel_rfl, ?_⟩) ?_; rotate_left; (intro w hc; have k0 := hc.c1; have k1 := hc.x1; clear hc; go_simp; try with_reducible rfl))
  go_simp
  (refine wpAnyX_take (i := 1) (v := ?_) (HC0.out _ HB0.out) rfl (by kernel_rfl) (by kernel_rfl) (by kernel_rfl) (by kernel_rfl) (fun _ _ _ h => h) (Or.inl ⟨by kernel_rfl, ?_⟩) ?_; rotate_left; (intro w hc; have k0 := hc.c1; have k1 := hc.x1; clear hc; go_simp; try with_reducible rfl))
  go_simp
  (refine wpAnyX_take (i := 2) (v := ?_) (HC0.out _ HB0.out) rfl (by kernel_rfl) (by kernel_rfl) (by kernel_rfl) (by kernel_rfl) (fun _ _ _ h => h) (Or.inl ⟨by kernel_rfl, ?_⟩) ?_; rotate_left; (intro w hc; have k0 := hc.c1; have k1 := hc.x1; clear hc; go_simp; try with_reducible rfl))
  go_simp
  (refine wpAnyX_take (i := 3) (v := ?_) (HC0.out _ HB0.out) rfl (by kernel_rfl) (by kernel_rfl) (by kernel_rfl) (by kernel_rfl) (fun _ _ _ h => h) (Or.inl ⟨by kernel_rfl, ?_⟩) ?_; rotate_left; (intro w hc; have k0 := hc.c1; have k1 := hc.x1; clear hc; go_simp; try with_reducible rfl))
  go_simp
  (refine wpAnyX_take (i := 4) (v := ?_) (HC0.out _ HB0.out) rfl (by kernel_rfl) (by kernel_rfl) (by kernel_rfl) (by kernel_rfl) (fun _ _ _ h => h) (Or.inl ⟨by kernel_rfl, ?_⟩) ?_; rotate_left; (intro w hc; have k0 := hc.c1; have k1 := hc.x1; clear hc; go_simp; try with_reducible rfl))
  go_simp
  (refine wpAnyX_take (i := 5) (v := ?_) (HC0.out _ HB0.out) rfl (by kernel_rfl) (by kernel_rfl) (by kernel_rfl) (by kernel_rfl) (fun _ _ _ h => h) (Or.inl ⟨by kernel_rfl, ?_⟩) ?_; rotate_left; (intro w hc; have k0 := hc.c1; have k1 := hc.x1; clear hc; go_simp; try with_reducible rfl))
  go_simp
  (refine wpAnyX_take (i := 6) (v := ?_) (HC0.out _ HB0.out) rfl (by kernel_rfl) (by kernel_rfl) (by kernel_rfl) (by kernel_rfl) (fun _ _ _ h => h) (Or.inl ⟨by kernel_rfl, ?_⟩) ?_; rotate_left; (intro w hc; have k0 := hc.c1; have k1 := hc.x1; clear hc; go_simp; try with_reducible rfl))
  go_simp
  (refine wpAnyX_take (i := 7) (v := ?_) (HC0.out _ HB0.out) rfl (by kernel_rfl) (by kernel_rfl) (by kernel_rfl) (by kernel_rfl) (fun _ _ _ h => h) (Or.inl ⟨by kernel_rfl, ?_⟩) ?_; rotate_left; (intro w hc; have k0 := hc.c1; have k1 := hc.x1; clear hc; go_simp; try with_reducible rfl))
  go_simp
  (refine wpAnyX_take (i := 8) (v := ?_) (HC0.out _ HB0.out) rfl (by kernel_rfl) (by kernel_rfl) (by kernel_rfl) (by kernel_rfl) (fun _ _ _ h => h) (Or.inl ⟨by kernel_rfl, ?_⟩) ?_; rotate_left; (intro w hc; have k0 := hc.c1; have k1 := hc.x1; clear hc; go_simp; try with_reducible rfl))
  go_simp
  (refine wpAnyX_take (i := 9) (v := ?_) (HC0.out _ HB0.out) rfl (by kernel_rfl) (by kernel_rfl) (by kernel_rfl) (by kernel_rfl) (fun _ _ _ h => h) (Or.inl ⟨by kernel_rfl, ?_⟩) ?_; rotate_left; (intro w hc; have k0 := hc.c1; have k1 := hc.x1; clear hc; go_simp; try with_reducible rfl))
  go_simp
  (refine wpAnyX_take (i := 10) (v := ?_) (HC0.out _ HB0.out) rfl (by kernel_rfl) (by kernel_rfl) (by kernel_rfl) (by kernel_rfl) (fun _ _ _ h => h) (Or.inl ⟨by kernel_rfl, ?_⟩) ?_; rotate_left; (intro w hc; have k0 := hc.c1; have k1 := hc.x1; clear hc; go_simp; try with_reducible rfl))
  go_simp
  (refine wpAnyX_take (i := 11) (v := ?_) (HC0.out _ HB0.out) rfl (by kernel_rfl) (by kernel_rfl) (by kernel_rfl) (by kernel_rfl) (fun _ _ _ h => h) (Or.inl ⟨by kernel_rfl, ?_⟩) ?_; rotate_left; (intro w hc; have k0 := hc.c1; have k1 := hc.x1; clear hc; go_simp; try with_reducible rfl))
  go_simp
  (refine wpAnyX_take (i := 12) (v := ?_) (HC0.out _ HB0.out) rfl (by kernel_rfl) (by kernel_rfl) (by kernel_rfl) (by kernel_rfl) (fun _ _ _ h => h) (Or.inl ⟨by kernel_rfl, ?_⟩) ?_; rotate_left; (intro w hc; have k0 := hc.c1; have k1 := hc.x1; clear hc; go_simp; try with_reducible rfl))
  go_simp
  refine wpAnyX_one (i := 13) (by kernel_rfl) (wpOp_wanted rfl (by rfl) ?_)
  go_simp
  refine (HQ.out _ _ HB0.out (HT.out _ HB0.out)).mono ?_
  rintro r w2 ⟨ev, st, rfl, hev, hP⟩
  have HP := hide' hP
  clear hP HQ HT
  go_simp
  refine wpAnyX_one (i := 14) (by kernel_rfl) (wpOp_wanted rfl (by rfl) ?_)
  go_simp
  have hst : Calls Tryz.prog 103 #[ev] w2 fun r w' => r = .returned (.int .i64 st) ∧ w' = w2 := by
    rcases hev with ⟨rfl, rfl⟩ | ⟨g, rfl, rfl⟩
    · exact status_ok w2
    · exact status_flt g w2
  refine hst.mono ?_
  rintro r w3 ⟨rfl, rfl⟩
  clear hst hev
  go_simp
  refine wpAnyX_one (i := 15) (by kernel_rfl) (wpOp_wanted rfl (by rfl) ?_)
  go_simp
  refine wpAnyX_done (by kernel_rfl) ?_ _
  go_wp2
  go_step3
  go_wp2
  try rw [Exit.noGoto_ret]
  go_ret
  exact ⟨st, rfl, HP.out⟩
theorem cf_d (xs : Array Value) (W : World) : (callFunc 102 xs).run Tryz.prog W = .ok (.enter 102 xs) W := by kernel_rfl
set_option maxRecDepth 100000 in
set_option maxHeartbeats 2000000 in
theorem archive_d (C : Nat) (p : Bs) (fs : List Bs) (fv y iv ov : Value) (w : World) (hC : CallAt w C fv y iv ov) (hy : Txs w y ([100] :: p :: fs)) (P : Int → World → Prop)
    (hq : ∀ (W : World) (lv : Value), Below w.heap.size w W → Txs W lv fs → Calls Tryz.prog 102 #[.pointer (some ⟨C, 0, none⟩), .string (mk p), lv] W fun r w' => ∃ ev st, r = .returned ev ∧ ((ev = .nilIface ∧ st = 0) ∨ ∃ g, ev = .iface 174 (.pointer (some ⟨g, 0, none⟩)) ∧ st = 1) ∧ P st w') :
    Calls Tryz.prog 55 #[.pointer (some ⟨C, 0, none⟩)] w fun r w' => ∃ st, r = .returned (.int .i64 st) ∧ P st w' := by
  rcases hy with ⟨_, _, _, hbad⟩ | ⟨g, o, c, rfl, h2, h3, h4⟩
  · cases hbad
  have x0 : w.cell? ⟨g, o, none⟩ = some (.string (mk [100])) := h4 0 _ rfl
  have x1 : w.cell? ⟨g, o + 1, none⟩ = some (.string (mk p)) := h4 1 _ rfl
  obtain ⟨n, hn⟩ : ∃ n, fs.length + 2 = n := ⟨_, rfl⟩
  have h2' : n ≤ c := by simp only [List.length_cons] at h2; omega
  obtain ⟨sa, sc, hsl, hT⟩ := tail_two w g o c n _ p fs hn h2' h3 h4
  have c1 : w.cell? ⟨C, 1, none⟩ = some (.slice (some ⟨g, o, none⟩) n c) := by rw [Lib.cell_of_heap hC, ← hn]; rfl
  have hnn : ¬ (n : Int) < 2 := by omega
  have hn1 : (1 : Int) < n := by omega
  have hcf := cf_d
  dsimp only [mk] at x0
  have HQ := hide' hq
  have HT := hide' hT
  have HC0 : Hid (∀ W, Below w.heap.size w W → ArC C g o n c p W) := hide' fun W hb => ⟨(hb.cell (p := ⟨C, 1, none⟩) (lt_of_block hC)).trans c1, (hb.cell (p := ⟨g, o + 1, none⟩) h3).trans x1⟩
  clear h4 hC hq hT h2 hn
  generalize fs.length = fl at hsl HT
  go_enter Tryz.func55, Tryz.ntmps55
  go_wp2_with fail
  go_step3
  go_wp2_with fail
  refine wp_region_classX [13, 14, 15] (C := ArC C g o n c p) (by kernel_rfl) ?_
  have hb0 : Below w.heap.size w w.drew := below_drewn (B := w.heap.size) (w := w) 1
  have HB0 := hide' hb0
  clear hb0 x0 x1 c1
  (refine wpAnyX_take (i := 0) (v := ?_) (HC0.out _ HB0.out) rfl (by kernel_rfl) (by kernel_rfl) (by kernel_rfl) (by kernel_rfl) (fun _ _ _ h => h) (Or.inl ⟨by kernel_rfl, ?_⟩) ?_; rotate_left; (intro w hc; have k0 := hc.c1; have k1 := hc.x1; clear hc; go_simp; try with_reducible rfl))
  go_simp
  (refine wpAnyX_take (i := 1) (v := ?_) (HC0.out _ HB0.out) rfl (by kernel_rfl) (by kernel_rfl) (by kernel_rfl) (by kernel_rfl) (fun _ _ _ h => h) (Or.inl ⟨by kernel_rfl, ?_⟩) ?_; rotate_left; (intro w hc; have k0 := hc.c1; have k1 := hc.x1; clear hc; go_simp; try with_reducible rfl))
  go_simp
  (refine wpAnyX_take (i := 2) (v := ?_) (HC0.out _ HB0.out) rfl (by kernel_rfl) (by kernel_rfl) (by kernel_rfl) (by kernel_rfl) (fun _ _ _ h => h) (Or.inl ⟨by kernel_rfl, ?_⟩) ?_; rotate_left; (intro w hc; have k0 := hc.c1; have k1 := hc.x1; clear hc; go_simp; try with_reducible rfl))
  go_simp
  (refine wpAnyX_take (i := 3) (v := ?_) (HC0.out _ HB0.out) rfl (by kernel_rfl) (by kernel_rfl) (by kernel_rfl) (by kernel_rfl) (fun _ _ _ h => h) (Or.inl ⟨by kernel_rfl, ?_⟩) ?_; rotate_left; (intro w hc; have k0 := hc.c1; have k1 := hc.x1; clear hc; go_simp; try with_reducible rfl))
  go_simp
  (refine wpAnyX_take (i := 4) (v := ?_) (HC0.out _ HB0.out) rfl (by kernel_rfl) (by kernel_rfl) (by kernel_rfl) (by kernel_rfl) (fun _ _ _ h => h) (Or.inl ⟨by kernel_rfl, ?_⟩) ?_; rotate_left; (intro w hc; have k0 := hc.c1; have k1 := hc.x1; clear hc; go_simp; try with_reducible rfl))
  go_simp
  (refine wpAnyX_take (i := 5) (v := ?_) (HC0.out _ HB0.out) rfl (by kernel_rfl) (by kernel_rfl) (by kernel_rfl) (by kernel_rfl) (fun _ _ _ h => h) (Or.inl ⟨by kernel_rfl, ?_⟩) ?_; rotate_left; (intro w hc; have k0 := hc.c1; have k1 := hc.x1; clear hc; go_simp; try with_reducible rfl))
  go_simp
  (refine wpAnyX_take (i := 6) (v := ?_) (HC0.out _ HB0.out) rfl (by kernel_rfl) (by kernel_rfl) (by kernel_rfl) (by kernel_rfl) (fun _ _ _ h => h) (Or.inl ⟨by kernel_rfl, ?_⟩) ?_; rotate_left; (intro w hc; have k0 := hc.c1; have k1 := hc.x1; clear hc; go_simp; try with_reducible rfl))
  go_simp
  (refine wpAnyX_take (i := 7) (v := ?_) (HC0.out _ HB0.out) rfl (by kernel_rfl) (by kernel_rfl) (by kernel_rfl) (by kernel_rfl) (fun _ _ _ h => h) (Or.inl ⟨by kernel_rfl, ?_⟩) ?_; rotate_left; (intro w hc; have k0 := hc.c1; have k1 := hc.x1; clear hc; go_simp; try with_reducible rfl))
  go_simp
  (refine wpAnyX_take (i := 8) (v := ?_) (HC0.out _ HB0.out) rfl (by kernel_rfl) (by kernel_rfl) (by kernel_rfl) (by kernel_rfl) (fun _ _ _ h => h) (Or.inl ⟨by kernel_rfl, ?_⟩) ?_; rotate_left; (intro w hc; have k0 := hc.c1; have k1 := hc.x1; clear hc; go_simp; try with_reducible rfl))
  go_simp
  (refine wpAnyX_take (i := 9) (v := ?_) (HC0.out _ HB0.out) rfl (by kernel_rfl) (by kernel_rfl) (by kernel_rfl) (by kernel_rfl) (fun _ _ _ h => h) (Or.inl ⟨by kernel_rfl, ?_⟩) ?_; rotate_left; (intro w hc; have k0 := hc.c1; have k1 := hc.x1; clear hc; go_simp; try with_reducible rfl))
  go_simp
  (refine wpAnyX_take (i := 10) (v := ?_) (HC0.out _ HB0.out) rfl (by kernel_rfl) (by kernel_rfl) (by kernel_rfl) (by kernel_rfl) (fun _ _ _ h => h) (Or.inl ⟨by kernel_rfl, ?_⟩) ?_; rotate_left; (intro w hc; have k0 := hc.c1; have k1 := hc.x1; clear hc; go_simp; try with_reducible rfl))
  go_simp
  (refine wpAnyX_take (i := 11) (v := ?_) (HC0.out _ HB0.out) rfl (by kernel_rfl) (by kernel_rfl) (by kernel_rfl) (by kernel_rfl) (fun _ _ _ h => h) (Or.inl ⟨by kernel_rfl, ?_⟩) ?_; rotate_left; (intro w hc; have k0 := hc.c1; have k1 := hc.x1; clear hc; go_simp; try with_reducible rfl))
  go_simp
  (refine wpAnyX_take (i := 12) (v := ?_) (HC0.out _ HB0.out) rfl (by kernel_rfl) (by kernel_rfl) (by kernel_rfl) (by kernel_rfl) (fun _ _ _ h => h) (Or.inl ⟨by kernel_rfl, ?_⟩) ?_; rotate_left; (intro w hc; have k0 := hc.c1; have k1 := hc.x1; clear hc; go_simp; try with_reducible rfl))
  go_simp
  refine wpAnyX_one (i := 13) (by kernel_rfl) (wpOp_wanted rfl (by rfl) ?_)
  go_simp
  refine (HQ.out _ _ HB0.out (HT.out _ HB0.out)).mono ?_
  rintro r w2 ⟨ev, st, rfl, hev, hP⟩
  have HP := hide' hP
  clear hP HQ HT
  go_simp
  refine wpAnyX_one (i := 14) (by kernel_rfl) (wpOp_wanted rfl (by rfl) ?_)
  go_simp
  have hst : Calls Tryz.prog 103 #[ev] w2 fun r w' => r = .returned (.int .i64 st) ∧ w' = w2 := by
    rcases hev with ⟨rfl, rfl⟩ | ⟨g, rfl, rfl⟩
    · exact status_ok w2
    · exact status_flt g w2
  refine hst.mono ?_
  rintro r w3 ⟨rfl, rfl⟩
  clear hst hev
  go_simp
  refine wpAnyX_one (i := 15) (by kernel_rfl) (wpOp_wanted rfl (by rfl) ?_)
  go_simp
  refine wpAnyX_done (by kernel_rfl) ?_ _
  go_wp2
  go_step3
  go_wp2
  try rw [Exit.noGoto_ret]
  go_ret
  exact ⟨st, rfl, HP.out⟩
end Go.Proofs.YtbfchadcpokjoaaGreatDoor
