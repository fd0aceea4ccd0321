/- The contracts of bytes.Clone, strings.Clone, ar.own. -/
import Derived.Test.YtcijjigafcpcpaaGreatDoorOwn
namespace Go.Proofs.YtcijjigafcpcpaaGreatDoor
open Go.RowKit Go.Maps Go.Shelf

theorem sclone_any (s : ByteArray) (w : World) (hs : s.size ≤ 1099511627776) : Calls Tryz.prog 45 #[.string s] w fun r w' => r = .returned (.string s) ∧ Below w.heap.size w w' := by
  go_enter Tryz.func45, Tryz.ntmps45
  go_wp2_with (go_at_call 55; refine (Tryz.stringslite_Clone s _ (by omega)).mono ?_; rintro e w' ⟨rfl, hb⟩)
  go_ret
  exact ⟨rfl, hb⟩
theorem dat_of_own {w : World} {base : Nat} {v : Value} {bs : Bs} (h : w.ownsRow base 5 1 v bs.length (Lib.byteCells bs)) (hn : v ≠ .slice none 0 0) : Dat w v bs ∧ OwnB base v := by
  rcases h.2 with ⟨e, _⟩ | ⟨g, cap, cur, e, h1, h2, h3, h4, h5, h6⟩
  · exact absurd e hn
  · subst e
    exact ⟨.inr ⟨g, cap, cur, rfl, h2, h3, by omega, h4, by simpa using h6⟩, fun g' hg => by cases hg; exact h1⟩
theorem bclone_any (x : Value) (bs : Bs) (w : World) (h : Rds w x bs) (hl : bs.length ≤ 1099511627776) : Calls Tryz.prog 46 #[x] w fun r w' => (∃ v, r = .returned v ∧ Dat w' v bs ∧ OwnB w.heap.size v) ∧ Below w.heap.size w w' := by
  rcases h with ⟨rfl, rfl⟩ | ⟨a, cap, rfl, _, hc⟩
  · exact (Tryz.bytes_Clone_nil 0 0 w).mono fun r w' ⟨hr, hw⟩ => ⟨⟨_, hr, .inl ⟨rfl, rfl⟩, OwnB.nil _⟩, by rw [hw]; exact Below.refl _ _⟩
  · have hx : (bs.map fun b => (b.toNat : Int)).map (Value.int .u8) = Lib.byteCells bs := by rw [List.map_map]; rfl
    refine (Tryz.bytes_Clone_at a bs.length cap (bs.map fun b => (b.toNat : Int)) w (by simp) (by omega) fun i hi => ?_).mono ?_
    · refine hc i _ ?_
      unfold Lib.byteCells
      rw [List.getElem?_map, List.getElem?_eq_getElem hi, List.getD_eq_getElem?_getD, List.getElem?_map, List.getElem?_eq_getElem hi]
      rfl
    · rintro r w' ⟨v, rfl, ho, hn, hb⟩
      rw [hx] at ho
      obtain ⟨h1, h2⟩ := dat_of_own ho hn
      exact ⟨⟨v, rfl, h1, h2⟩, hb⟩
theorem res32 (tmps : Array Value) (b : Nat) (x y z : Value) (W : World) (h4 : tmps.getD 2 undef = .pointer (some ⟨b, 0, none⟩)) (hb : W.heap[b]? = some (.cells #[x, y, z] 37 (0, 0))) : (results Tryz.f32 tmps).run Tryz.prog W = .ok (.agg #[x, y, z]) W := by
  simp only [Array.getD_eq_getD_getElem?] at h4
  have c0 : W.cell? ⟨b, 0, none⟩ = some x := by rw [Lib.cell_of_heap hb]; rfl
  have c1 : W.cell? ⟨b, 1, none⟩ = some y := by rw [Lib.cell_of_heap hb]; rfl
  have c2 : W.cell? ⟨b, 2, none⟩ = some z := by rw [Lib.cell_of_heap hb]; rfl
  simp [results, Tryz.results32, go_sem, h4, c0, c1, c2]
theorem set_row {w : World} {A : Nat} {cs : Array Value} {T : TypeId} (h : w.heap[A]? = some (.cells cs T (0, 0))) (j : Nat) (v : Value) :
    (w.setCell ⟨A, j, none⟩ v).heap[A]? = some (.cells (cs.setIfInBounds j v) T (0, 0)) := by
  have hlt := lt_of_block h
  have h' : w.heap[A] = .cells cs T (0, 0) := by simpa [Array.getElem?_eq_getElem hlt] using h
  show (w.heap.modify A _)[A]? = _
  rw [Array.getElem?_eq_getElem (by simpa using hlt), Array.getElem_modify_self, h']
  rfl
structure PbC (b : Nat) (p : Value) (t : Int) (dv : Value) (w : World) : Prop where
  c0 : w.cell? ⟨b, 0, none⟩ = some p
  c1 : w.cell? ⟨b, 1, none⟩ = some (.int .i64 t)
  c2 : w.cell? ⟨b, 2, none⟩ = some dv
theorem PbC.below {b : Nat} {p : Value} {t : Int} {dv : Value} {w w' : World} (h : PbC b p t dv w) (hb : Below w.heap.size w w') (h1 : b < w.heap.size) : PbC b p t dv w' :=
  ⟨(hb.cell (p := ⟨b, 0, none⟩) h1).trans h.c0, (hb.cell (p := ⟨b, 1, none⟩) h1).trans h.c1, (hb.cell (p := ⟨b, 2, none⟩) h1).trans h.c2⟩
set_option maxRecDepth 100000 in
set_option maxHeartbeats 4000000 in
theorem own_any (m : Mv) (w : World) (hr : Rds w m.dv m.data) (hn : m.name.length ≤ 1099511627776) (hl : m.data.length ≤ 1099511627776) :
    Calls Tryz.prog 32 #[.agg #[.string (mk m.name), .int .i64 m.date, m.dv]] w fun r w' => (∃ v, r = .returned (.agg #[.string (mk m.name), .int .i64 m.date, v]) ∧ Dat w' v m.data ∧ OwnB w.heap.size v) ∧ Below w.heap.size w w' := by
  obtain ⟨da, dc, hdv⟩ := hr.len
  rw [hdv] at hr ⊢
  have hb0 : Below w.heap.size w ((w.alloc (.cells #[.string (mk m.name), .int .i64 m.date, .slice da m.data.length dc] 37)).alloc (.cells #[.string ⟨#[]⟩, .int .i64 0, .slice none 0 0] 37)) := ((Below.refl _ _).alloc (Nat.le_refl _) _).alloc (by simp) _
  have z1 := (Below.heap_alloc (w.alloc (.cells #[.string (mk m.name), .int .i64 m.date, .slice da m.data.length dc] 37)) (.cells #[.string ⟨#[]⟩, .int .i64 0, .slice none 0 0] 37) w.heap.size (by simp)).trans (alloc_new w _)
  have z2 := alloc_new (w.alloc (.cells #[.string (mk m.name), .int .i64 m.date, .slice da m.data.length dc] 37)) (.cells #[.string ⟨#[]⟩, .int .i64 0, .slice none 0 0] 37)
  rw [size_alloc'] at z2
  go_enter Tryz.func32, Tryz.ntmps32
  go_wp2
  refine wp_region_class (C := PbC w.heap.size (.string (mk m.name)) m.date (.slice da m.data.length dc)) (by kernel_rfl) ?_
  obtain ⟨w0, hw0⟩ : ∃ w0, w0 = World.drew ((w.alloc (.cells #[.string (mk m.name), .int .i64 m.date, .slice da m.data.length dc] 37)).alloc (.cells #[.string ⟨#[]⟩, .int .i64 0, .slice none 0 0] 37)) := ⟨_, rfl⟩
  have hb0 : Below w.heap.size w w0 := by rw [hw0]; exact hb0.drew
  have z1 : w0.heap[w.heap.size]? = some (.cells #[.string (mk m.name), .int .i64 m.date, .slice da m.data.length dc] 37 (0, 0)) := by rw [hw0]; exact z1
  have z2 : w0.heap[w.heap.size + 1]? = some (.cells #[.string ⟨#[]⟩, .int .i64 0, .slice none 0 0] 37 (0, 0)) := by rw [hw0]; exact z2
  have hs0 : w0.heap.size = w.heap.size + 2 := by rw [hw0]; show ((w.alloc _).alloc _).heap.size = _; simp
  have hP : PbC w.heap.size (.string (mk m.name)) m.date (.slice da m.data.length dc) w0 := ⟨by rw [Lib.cell_of_heap z1]; rfl, by rw [Lib.cell_of_heap z1]; rfl, by rw [Lib.cell_of_heap z1]; rfl⟩
  rw [← hw0]
  clear hw0
  (refine wpAnyC_take (i := 0) (v := ?_) hP rfl (by kernel_rfl) (by kernel_rfl) (by kernel_rfl) (fun _ _ _ h => h) (Or.inl ⟨by kernel_rfl, ?_⟩) ?_; rotate_left; (intro w hc; have k0 := hc.c0; have k1 := hc.c1; have k2 := hc.c2; clear hc; go_simp; try with_reducible rfl))
  (refine wpAnyC_take (i := 1) (v := ?_) hP rfl (by kernel_rfl) (by kernel_rfl) (by kernel_rfl) (fun _ _ _ h => h) (Or.inl ⟨by kernel_rfl, ?_⟩) ?_; rotate_left; (intro w hc; have k0 := hc.c0; have k1 := hc.c1; have k2 := hc.c2; clear hc; go_simp; try with_reducible rfl))
  (refine wpAnyC_take (i := 3) (v := ?_) hP rfl (by kernel_rfl) (by kernel_rfl) (by kernel_rfl) (fun _ _ _ h => h) (Or.inl ⟨by kernel_rfl, ?_⟩) ?_; rotate_left; (intro w hc; have k0 := hc.c0; have k1 := hc.c1; have k2 := hc.c2; clear hc; go_simp; try with_reducible rfl))
  (refine wpAnyC_take (i := 4) (v := ?_) hP rfl (by kernel_rfl) (by kernel_rfl) (by kernel_rfl) (fun _ _ _ h => h) (Or.inl ⟨by kernel_rfl, ?_⟩) ?_; rotate_left; (intro w hc; have k0 := hc.c0; have k1 := hc.c1; have k2 := hc.c2; clear hc; go_simp; try with_reducible rfl))
  (refine wpAnyC_take (i := 5) (v := ?_) hP rfl (by kernel_rfl) (by kernel_rfl) (by kernel_rfl) (fun _ _ _ h => h) (Or.inl ⟨by kernel_rfl, ?_⟩) ?_; rotate_left; (intro w hc; have k0 := hc.c0; have k1 := hc.c1; have k2 := hc.c2; clear hc; go_simp; try with_reducible rfl))
  (refine wpAnyC_take (i := 6) (v := ?_) hP rfl (by kernel_rfl) (by kernel_rfl) (by kernel_rfl) (fun _ _ _ h => h) (Or.inl ⟨by kernel_rfl, ?_⟩) ?_; rotate_left; (intro w hc; have k0 := hc.c0; have k1 := hc.c1; have k2 := hc.c2; clear hc; go_simp; try with_reducible rfl))
  refine wpAnyC_one (i := 2) (by kernel_rfl) (wpOp_wanted rfl (by rfl) ?_)
  go_simp
  refine (sclone_any (mk m.name) _ (by rw [mk_size]; omega)).mono ?_
  rintro r w1 ⟨rfl, hb1⟩
  dsimp only
  have hP1 := hP.below hb1 (by omega)
  have hs1 := hb1.size
  have hB1 := hb0.trans (hb1.mono hb0.size)
  refine ⟨hP1, ?_⟩
  refine wpAnyC_one (i := 7) (by kernel_rfl) (wpOp_wanted rfl (by rfl) ?_)
  go_simp
  refine (bclone_any _ m.data w1 (hr.below hB1) hl).mono ?_
  rintro r w2 ⟨⟨v2, rfl, hD2, hO2⟩, hb2⟩
  dsimp only
  have hP2 := hP1.below hb2 (by omega)
  have hs2 := hb2.size
  have hB2 := hB1.trans (hb2.mono hB1.size)
  have y2 := (hb2.block (w.heap.size + 1) (by omega)).trans ((hb1.block (w.heap.size + 1) (by omega)).trans z2)
  obtain ⟨a2, n2, c2, hv2⟩ := hD2.form
  subst hv2
  have s0 : w2.cell? ⟨w.heap.size + 1, 0, none⟩ = some (.string ⟨#[]⟩) := by rw [Lib.cell_of_heap y2]; rfl
  have s1 : w2.cell? ⟨w.heap.size + 1, 1, none⟩ = some (.int .i64 0) := by rw [Lib.cell_of_heap y2]; rfl
  have s2 : w2.cell? ⟨w.heap.size + 1, 2, none⟩ = some (.slice none 0 0) := by rw [Lib.cell_of_heap y2]; rfl
  have g0 := Lib.frozen_of_heap y2 0
  have g1 := Lib.frozen_of_heap y2 1
  have g2 := Lib.frozen_of_heap y2 2
  refine ⟨hP2, ?_⟩
  refine wpAnyC_one (i := 8) (by kernel_rfl) (wpOp_wanted rfl (by rfl) ?_)
  go_simp
  refine wpAnyC_one (i := 9) (by kernel_rfl) (wpOp_wanted rfl (by rfl) ?_)
  go_simp
  have hk : ∀ (k : Nat) (W : World) (u : Value) (j : Nat), k ≠ w.heap.size + 1 → (W.setCell ⟨w.heap.size + 1, j, none⟩ u).heap[k]? = W.heap[k]? := fun k W u j h => Below.heap_setCell _ _ _ _ h
  have q0 : ∀ u0 u1 u2, (((w2.setCell ⟨w.heap.size + 1, 0, none⟩ u0).setCell ⟨w.heap.size + 1, 1, none⟩ u1).setCell ⟨w.heap.size + 1, 2, none⟩ u2).heap[w.heap.size]? = w2.heap[w.heap.size]? := fun u0 u1 u2 => by rw [hk _ _ _ _ (by omega), hk _ _ _ _ (by omega), hk _ _ _ _ (by omega)]
  have x2 := (hb2.block w.heap.size (by omega)).trans ((hb1.block w.heap.size (by omega)).trans z1)
  have r2 := set_row (set_row (set_row y2 0 (.string (mk m.name))) 1 (.int .i64 m.date)) 2 (.slice a2 n2 c2)
  refine ⟨⟨by rw [Lib.cell_of_heap ((q0 _ _ _).trans x2)]; rfl, by rw [Lib.cell_of_heap ((q0 _ _ _).trans x2)]; rfl, by rw [Lib.cell_of_heap ((q0 _ _ _).trans x2)]; rfl⟩, ?_⟩
  refine wpAnyC_done (by kernel_rfl) ?_ _
  go_wp2
  refine bodyPost_ret (res32 _ _ _ _ _ _ rfl r2) rfl ?_
  refine ⟨⟨_, rfl, hD2.kept fun g hg => ?_, fun g hg => (by have := hO2 g hg; omega)⟩, ((hB2.setCell (by show w.heap.size ≤ w.heap.size + 1; omega) _).setCell (by show w.heap.size ≤ w.heap.size + 1; omega) _).setCell (by show w.heap.size ≤ w.heap.size + 1; omega) _⟩
  have hg1 := hO2 g hg
  rw [hk _ _ _ _ (by omega), hk _ _ _ _ (by omega), hk _ _ _ _ (by omega)]
end Go.Proofs.YtcijjigafcpcpaaGreatDoor
