/- The contracts of lines.settled and lines.Next: the logical line that begins at a place, and the place behind it. -/
import Derived.Test.YteleakbefebabaaDoorBa
namespace Go.Proofs.YteleakbefebabaaDoor
open Go.RowKit Go.Shelf

/-- a line as a value -/
abbrev lnv (k m : Int) (t : ByteArray) : Value := .agg #[.int .i64 k, .int .i64 m, .string t]

abbrev twoW (w : World) (o o' : Obj) : World := (w.alloc o).alloc o'
theorem two_blocks {w w' : World} {o o' : Obj} (h : Below (twoW w o o').heap.size (twoW w o o') w') : w'.heap[w.heap.size]? = some o ∧ w'.heap[w.heap.size + 1]? = some o' := by
  have h1 := h.block w.heap.size (by simp; omega)
  have h2 := h.block (w.heap.size + 1) (by simp)
  have e1 : (twoW w o o').heap[w.heap.size]? = some o := (Below.heap_alloc _ _ _ (by simp)).trans (World.alloc_heap_new w _)
  have e2 := World.alloc_heap_new (w.alloc o) o'
  rw [World.size_alloc] at e2
  exact ⟨h1.trans e1, h2.trans e2⟩
theorem below_two (w : World) (o o' : Obj) : Below w.heap.size w (twoW w o o') := ((Below.refl _ w).alloc (Nat.le_refl _) _).alloc (by simp) _

set_option maxHeartbeats 1000000 in
theorem settled_any (k : Nat) (m : Int) (t : ByteArray) (w : World) (hk : k = 1 ∨ k = 2) (ht : t.size ≤ 1000000) :
    Calls Tryd.prog 22 #[lnv k m t] w fun e w' => e = .returned (lnv (kindP k (tl t)) m (mk (textP k (tl t)))) ∧ Below w.heap.size w w' := by
  obtain ⟨x, HX⟩ : ∃ x : ByteArray, Hid (tl x = if k = 2 then bare (tl t) else tl t) := ⟨mk (if k = 2 then bare (tl t) else tl t), tl_mk _⟩
  have hxs : x.size ≤ 1000000 := by
    rw [← tl_len, HX.out]
    have := bare_le (tl t)
    rw [tl_len] at this
    split
    · omega
    · rw [tl_len]; exact ht
  have ktr := fun w => trim_any x w hxs
  obtain ⟨z, hz⟩ : ∃ z, z = mk (Lib.trimS (tl x) blk) := ⟨_, rfl⟩
  have hzt : tl z = Lib.trimS (tl x) blk := by rw [hz, tl_mk]
  have hib : isBlank (if k = 2 then bare (tl t) else tl t) = (tl z).isEmpty := by rw [← HX.out, hzt]; rfl
  rw [← hz] at ktr
  obtain ⟨b, hb⟩ : ∃ b, b = (tl z).isEmpty := ⟨_, rfl⟩
  have HK : Hid (kindP k (tl t) = if b then 0 else k) := by show _ = _; unfold kindP; rw [hib, hb]
  have HT : Hid (textP k (tl t) = if b then [] else tl t) := by show _ = _; unfold textP; rw [hib, hb]
  rw [HK.out, HT.out]
  have hbz : z.toList.isEmpty = b := by rw [hb, Lib.toList_data]; rfl
  clear hz hzt hib hb HK HT
  rcases hk with rfl | rfl
  · have hx : x = t := tl_inj _ _ (by rw [HX.out]; rfl)
    subst hx
    go_enter Tryd.func22, Tryd.ntmps22
    cases b with
    | true =>
      go_wp2_with fail
      refine (ktr _).mono ?_
      rintro e w' ⟨rfl, hb1⟩
      obtain ⟨e1, e2⟩ := two_blocks (w := w) hb1
      have c0 : w'.cell? ⟨w.heap.size, 0, none⟩ = some (.int .i64 1) := by rw [Lib.cell_of_heap e1]; rfl
      have c1 : w'.cell? ⟨w.heap.size, 1, none⟩ = some (.int .i64 m) := by rw [Lib.cell_of_heap e1]; rfl
      have c2 : w'.cell? ⟨w.heap.size, 2, none⟩ = some (.string x) := by rw [Lib.cell_of_heap e1]; rfl
      have d0 : w'.cell? ⟨w.heap.size + 1, 0, none⟩ = some (.int .i64 0) := by rw [Lib.cell_of_heap e2]; rfl
      have d1 : w'.cell? ⟨w.heap.size + 1, 1, none⟩ = some (.int .i64 0) := by rw [Lib.cell_of_heap e2]; rfl
      have d2 : w'.cell? ⟨w.heap.size + 1, 2, none⟩ = some (.string ⟨#[]⟩) := by rw [Lib.cell_of_heap e2]; rfl
      have f0 : w'.frozen? ⟨w.heap.size + 1, 0, none⟩ = false := Lib.frozen_of_heap e2 0
      have f1 : w'.frozen? ⟨w.heap.size + 1, 1, none⟩ = false := Lib.frozen_of_heap e2 1
      have f2 : w'.frozen? ⟨w.heap.size + 1, 2, none⟩ = false := Lib.frozen_of_heap e2 2
      have hbe : Below w.heap.size w w' := (below_two w _ _).trans (Below.mono hb1 (by simp; omega))
      clear hb1 e1 e2
      go_wp2
      refine bodyPost_ret (by simp [results, Tryd.results22, go_sem, d0, d1, d2]; rfl) rfl ?_
      refine ⟨by simp, ?_⟩
      exact ((hbe.setCell (p := ⟨w.heap.size + 1, 0, none⟩) (by simp) _).setCell (p := ⟨w.heap.size + 1, 1, none⟩) (by simp) _).setCell (p := ⟨w.heap.size + 1, 2, none⟩) (by simp) _
    | false =>
      go_wp2_with fail
      refine (ktr _).mono ?_
      rintro e w' ⟨rfl, hb1⟩
      obtain ⟨e1, e2⟩ := two_blocks (w := w) hb1
      have c0 : w'.cell? ⟨w.heap.size, 0, none⟩ = some (.int .i64 1) := by rw [Lib.cell_of_heap e1]; rfl
      have c1 : w'.cell? ⟨w.heap.size, 1, none⟩ = some (.int .i64 m) := by rw [Lib.cell_of_heap e1]; rfl
      have c2 : w'.cell? ⟨w.heap.size, 2, none⟩ = some (.string x) := by rw [Lib.cell_of_heap e1]; rfl
      have d0 : w'.cell? ⟨w.heap.size + 1, 0, none⟩ = some (.int .i64 0) := by rw [Lib.cell_of_heap e2]; rfl
      have d1 : w'.cell? ⟨w.heap.size + 1, 1, none⟩ = some (.int .i64 0) := by rw [Lib.cell_of_heap e2]; rfl
      have d2 : w'.cell? ⟨w.heap.size + 1, 2, none⟩ = some (.string ⟨#[]⟩) := by rw [Lib.cell_of_heap e2]; rfl
      have f0 : w'.frozen? ⟨w.heap.size + 1, 0, none⟩ = false := Lib.frozen_of_heap e2 0
      have f1 : w'.frozen? ⟨w.heap.size + 1, 1, none⟩ = false := Lib.frozen_of_heap e2 1
      have f2 : w'.frozen? ⟨w.heap.size + 1, 2, none⟩ = false := Lib.frozen_of_heap e2 2
      have hbe : Below w.heap.size w w' := (below_two w _ _).trans (Below.mono hb1 (by simp; omega))
      clear hb1 e1 e2
      go_wp2
      refine bodyPost_ret (by simp [results, Tryd.results22, go_sem, d0, d1, d2]; rfl) rfl ?_
      refine ⟨by simp [mk_tl], ?_⟩
      exact ((hbe.setCell (p := ⟨w.heap.size + 1, 0, none⟩) (by simp) _).setCell (p := ⟨w.heap.size + 1, 1, none⟩) (by simp) _).setCell (p := ⟨w.heap.size + 1, 2, none⟩) (by simp) _
  · have hx : tl x = bare (tl t) := by rw [HX.out]; rfl
    have kba := fun w => bare_any t w ht
    rw [← hx, mk_tl] at kba
    clear hx
    go_enter Tryd.func22, Tryd.ntmps22
    cases b with
    | true =>
      go_wp2_with fail
      refine (kba _).mono ?_
      rintro e w0 ⟨rfl, hb0⟩
      go_wp2_with fail
      refine (ktr _).mono ?_
      rintro e w' ⟨rfl, hb1⟩
      have hb2 := hb0.trans (hb1.mono hb0.size)
      obtain ⟨e1, e2⟩ := two_blocks (w := w) hb2
      have c0 : w'.cell? ⟨w.heap.size, 0, none⟩ = some (.int .i64 2) := by rw [Lib.cell_of_heap e1]; rfl
      have c1 : w'.cell? ⟨w.heap.size, 1, none⟩ = some (.int .i64 m) := by rw [Lib.cell_of_heap e1]; rfl
      have c2 : w'.cell? ⟨w.heap.size, 2, none⟩ = some (.string t) := by rw [Lib.cell_of_heap e1]; rfl
      have d0 : w'.cell? ⟨w.heap.size + 1, 0, none⟩ = some (.int .i64 0) := by rw [Lib.cell_of_heap e2]; rfl
      have d1 : w'.cell? ⟨w.heap.size + 1, 1, none⟩ = some (.int .i64 0) := by rw [Lib.cell_of_heap e2]; rfl
      have d2 : w'.cell? ⟨w.heap.size + 1, 2, none⟩ = some (.string ⟨#[]⟩) := by rw [Lib.cell_of_heap e2]; rfl
      have f0 : w'.frozen? ⟨w.heap.size + 1, 0, none⟩ = false := Lib.frozen_of_heap e2 0
      have f1 : w'.frozen? ⟨w.heap.size + 1, 1, none⟩ = false := Lib.frozen_of_heap e2 1
      have f2 : w'.frozen? ⟨w.heap.size + 1, 2, none⟩ = false := Lib.frozen_of_heap e2 2
      have hbe : Below w.heap.size w w' := (below_two w _ _).trans (Below.mono hb2 (by simp; omega))
      clear hb2 hb0 hb1 e1 e2
      go_wp2
      refine bodyPost_ret (by simp [results, Tryd.results22, go_sem, d0, d1, d2]; rfl) rfl ?_
      refine ⟨by simp, ?_⟩
      exact ((hbe.setCell (p := ⟨w.heap.size + 1, 0, none⟩) (by simp) _).setCell (p := ⟨w.heap.size + 1, 1, none⟩) (by simp) _).setCell (p := ⟨w.heap.size + 1, 2, none⟩) (by simp) _
    | false =>
      go_wp2_with fail
      refine (kba _).mono ?_
      rintro e w0 ⟨rfl, hb0⟩
      go_wp2_with fail
      refine (ktr _).mono ?_
      rintro e w' ⟨rfl, hb1⟩
      have hb2 := hb0.trans (hb1.mono hb0.size)
      obtain ⟨e1, e2⟩ := two_blocks (w := w) hb2
      have c0 : w'.cell? ⟨w.heap.size, 0, none⟩ = some (.int .i64 2) := by rw [Lib.cell_of_heap e1]; rfl
      have c1 : w'.cell? ⟨w.heap.size, 1, none⟩ = some (.int .i64 m) := by rw [Lib.cell_of_heap e1]; rfl
      have c2 : w'.cell? ⟨w.heap.size, 2, none⟩ = some (.string t) := by rw [Lib.cell_of_heap e1]; rfl
      have d0 : w'.cell? ⟨w.heap.size + 1, 0, none⟩ = some (.int .i64 0) := by rw [Lib.cell_of_heap e2]; rfl
      have d1 : w'.cell? ⟨w.heap.size + 1, 1, none⟩ = some (.int .i64 0) := by rw [Lib.cell_of_heap e2]; rfl
      have d2 : w'.cell? ⟨w.heap.size + 1, 2, none⟩ = some (.string ⟨#[]⟩) := by rw [Lib.cell_of_heap e2]; rfl
      have f0 : w'.frozen? ⟨w.heap.size + 1, 0, none⟩ = false := Lib.frozen_of_heap e2 0
      have f1 : w'.frozen? ⟨w.heap.size + 1, 1, none⟩ = false := Lib.frozen_of_heap e2 1
      have f2 : w'.frozen? ⟨w.heap.size + 1, 2, none⟩ = false := Lib.frozen_of_heap e2 2
      have hbe : Below w.heap.size w w' := (below_two w _ _).trans (Below.mono hb2 (by simp; omega))
      clear hb2 hb0 hb1 e1 e2
      go_wp2
      refine bodyPost_ret (by simp [results, Tryd.results22, go_sem, d0, d1, d2]; rfl) rfl ?_
      refine ⟨by simp [mk_tl], ?_⟩
      exact ((hbe.setCell (p := ⟨w.heap.size + 1, 0, none⟩) (by simp) _).setCell (p := ⟨w.heap.size + 1, 1, none⟩) (by simp) _).setCell (p := ⟨w.heap.size + 1, 2, none⟩) (by simp) _
end Go.Proofs.YteleakbefebabaaDoor
