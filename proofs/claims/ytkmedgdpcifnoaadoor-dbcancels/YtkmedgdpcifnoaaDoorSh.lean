/- The contract of db.shapeOf. -/
import Derived.Test.YtkmedgdpcifnoaaDoorPk
import Derived.Test.YtkmedgdpcifnoaaDoorCpo
import Derived.Deep.QuietTactic
import Derived.Deep.Cut
import Derived.Deep.CutBlock
namespace Go.Proofs.YtkmedgdpcifnoaaDoor
open Go.RowKit Go.Shelf

def Hx2 (w : World) (b : Nat) (v0 v1 : Value) : Prop := w.heap[b]? = some (.cells #[v0, v1] 98 (0, 0))
section
variable {w : World} {b : Nat} {v0 v1 : Value}
theorem Hx2.c0 (x : Hx2 w b v0 v1) : w.cell? ⟨b, 0, none⟩ = some v0 := by unfold Hx2 at x; rw [Lib.cell_of_heap x]; rfl
theorem Hx2.c1 (x : Hx2 w b v0 v1) : w.cell? ⟨b, 1, none⟩ = some v1 := by unfold Hx2 at x; rw [Lib.cell_of_heap x]; rfl
theorem Hx2.fz (x : Hx2 w b v0 v1) (j : Nat) : w.frozen? ⟨b, j, none⟩ = false := Lib.frozen_of_heap x j
theorem Hx2.lt (x : Hx2 w b v0 v1) : b < w.heap.size := lt_of_block x
theorem Hx2.below {w' : World} (x : Hx2 w b v0 v1) (hb : Below w.heap.size w w') : Hx2 w' b v0 v1 := (hb.block b x.lt).trans x
end
set_option maxRecDepth 100000 in
set_option maxHeartbeats 4000000 in
theorem shapeOf_any (ts ps : List Bs) (aa ab ac ad : Option Addr) (na nb nc nd ca cb cc cd : Nat) (rdbl rpat rter rhas rblt : Bool) (sta aga : ByteArray) (w : World) (hg : Glo w) (hta : Strs w (.slice aa na ca) ts) (htb : Strs w (.slice ab nb cb) ps)
    (f0 : ts.length ≤ 100000) (f1 : ps.length ≤ 100000) (m0 : ∀ x ∈ ts, x.length ≤ 1000000000) (m1 : ∀ x ∈ ps, x.length ≤ 1000000000) :
    Calls Tryd.prog 59 #[.agg #[.slice aa na ca, .slice ab nb cb, .slice ac nc cc, .bool rdbl, .bool rpat, .bool rter, .string sta, .slice ad nd cd, .bool rhas, .string aga, .bool rblt]] w fun e w' => e = .returned (hV (pakP ts) (pakP ps)) ∧ Below w.heap.size w w' := by
  have kA := fun W (hW : Below w.heap.size w W) => packed_any ts _ W (hg.below hW) f0 m0 (hta.below hW)
  have kB := fun W (hW : Below w.heap.size w W) => packed_any ps _ W (hg.below hW) f1 m1 (htb.below hW)
  clear hg hta htb f0 f1 m0 m1
  obtain ⟨sa, hsa⟩ : ∃ sa, sa = mk (pakP ts) := ⟨_, rfl⟩
  obtain ⟨sb, hsb⟩ : ∃ sb, sb = mk (pakP ps) := ⟨_, rfl⟩
  show Calls _ _ _ _ fun e w' => e = .returned (.agg #[.string (mk (pakP ts)), .string (mk (pakP ps))]) ∧ Below w.heap.size w w'
  rw [← hsa] at kA ⊢
  rw [← hsb] at kB ⊢
  clear hsa hsb
  go_enter Tryd.func59, Tryd.ntmps59
  go_upto_region 1 with fail
  have hX0 : Bx11 (w.alloc (.cells #[.slice aa na ca, .slice ab nb cb, .slice ac nc cc, .bool rdbl, .bool rpat, .bool rter, .string sta, .slice ad nd cd, .bool rhas, .string aga, .bool rblt] 43)) w.heap.size (.slice aa na ca) (.slice ab nb cb) (.slice ac nc cc) (.bool rdbl) (.bool rpat) (.bool rter) (.string sta) (.slice ad nd cd) (.bool rhas) (.string aga) (.bool rblt) := bx11_at w (.slice aa na ca) (.slice ab nb cb) (.slice ac nc cc) (.bool rdbl) (.bool rpat) (.bool rter) (.string sta) (.slice ad nd cd) (.bool rhas) (.string aga) (.bool rblt)
  have hX := hX0.alloc (.cells #[.string ⟨#[]⟩, .string ⟨#[]⟩] 98)
  have hR : Hx2 ((w.alloc (.cells #[.slice aa na ca, .slice ab nb cb, .slice ac nc cc, .bool rdbl, .bool rpat, .bool rter, .string sta, .slice ad nd cd, .bool rhas, .string aga, .bool rblt] 43)).alloc (.cells #[.string ⟨#[]⟩, .string ⟨#[]⟩] 98)) (w.heap.size + 1) (.string ⟨#[]⟩) (.string ⟨#[]⟩) := by
    have := heap_alloc_new (w.alloc (.cells #[.slice aa na ca, .slice ab nb cb, .slice ac nc cc, .bool rdbl, .bool rpat, .bool rter, .string sta, .slice ad nd cd, .bool rhas, .string aga, .bool rblt] 43)) (.cells #[.string ⟨#[]⟩, .string ⟨#[]⟩] 98)
    rw [World.size_alloc] at this
    exact this
  have hB3 : Below w.heap.size w ((w.alloc (.cells #[.slice aa na ca, .slice ab nb cb, .slice ac nc cc, .bool rdbl, .bool rpat, .bool rter, .string sta, .slice ad nd cd, .bool rhas, .string aga, .bool rblt] 43)).alloc (.cells #[.string ⟨#[]⟩, .string ⟨#[]⟩] 98)) := below_alloc (below_alloc (Below.refl _ w) (Nat.le_refl _) _) (Nat.le_refl _) _
  clear hX0
  generalize (w.alloc (.cells #[.slice aa na ca, .slice ab nb cb, .slice ac nc cc, .bool rdbl, .bool rpat, .bool rter, .string sta, .slice ad nd cd, .bool rhas, .string aga, .bool rblt] 43)).alloc (.cells #[.string ⟨#[]⟩, .string ⟨#[]⟩] 98) = w3 at hX hR hB3 ⊢
  obtain ⟨RR, hRR⟩ : ∃ RR, RR = w.heap.size + 1 := ⟨_, rfl⟩
  have hAR : w.heap.size ≠ RR := by omega
  have hBR : w.heap.size ≤ RR := by omega
  rw [← hRR] at hR ⊢
  clear hRR
  refine wp_region_class (C := fun W => Bx11 W w.heap.size (.slice aa na ca) (.slice ab nb cb) (.slice ac nc cc) (.bool rdbl) (.bool rpat) (.bool rter) (.string sta) (.slice ad nd cd) (.bool rhas) (.string aga) (.bool rblt)) (by kernel_rfl) ?_
  have hC : Bx11 w3.drew w.heap.size (.slice aa na ca) (.slice ab nb cb) (.slice ac nc cc) (.bool rdbl) (.bool rpat) (.bool rter) (.string sta) (.slice ad nd cd) (.bool rhas) (.string aga) (.bool rblt) := hX
  replace hR : Hx2 w3.drew RR (.string ⟨#[]⟩) (.string ⟨#[]⟩) := hR
  replace hB3 := hB3.drew
  clear hX
  (refine wpAnyC_take (i := 0) (v := ?_) hC rfl (by kernel_rfl) (by kernel_rfl) (by kernel_rfl) (fun _ _ _ h => h) (Or.inl ⟨by kernel_rfl, ?_⟩) ?_; rotate_left; (intro w hc;  clear hc; go_simp; try with_reducible rfl))
  (refine wpAnyC_take (i := 1) (v := ?_) hC rfl (by kernel_rfl) (by kernel_rfl) (by kernel_rfl) (fun _ _ _ h => h) (Or.inl ⟨by kernel_rfl, ?_⟩) ?_; rotate_left; (intro w hc; have k0 := hc.c0; clear hc; go_simp; try with_reducible rfl))
  (refine wpAnyC_take (i := 3) (v := ?_) hC rfl (by kernel_rfl) (by kernel_rfl) (by kernel_rfl) (fun _ _ _ h => h) (Or.inl ⟨by kernel_rfl, ?_⟩) ?_; rotate_left; (intro w hc;  clear hc; go_simp; try with_reducible rfl))
  (refine wpAnyC_take (i := 4) (v := ?_) hC rfl (by kernel_rfl) (by kernel_rfl) (by kernel_rfl) (fun _ _ _ h => h) (Or.inl ⟨by kernel_rfl, ?_⟩) ?_; rotate_left; (intro w hc; have k1 := hc.c1; clear hc; go_simp; try with_reducible rfl))
  go_simp
  refine wpAnyC_one (i := 2) (by kernel_rfl) (wpOp_wanted rfl (by rfl) ?_)
  go_simp
  refine (kA _ hB3).mono ?_
  rintro e w4 ⟨rfl, hb4⟩
  dsimp only
  have hC4 := hC.below hb4
  have hR4 := hR.below hb4
  have hB4 := hB3.trans (hb4.mono hB3.size)
  refine ⟨hC4, ?_⟩
  refine wpAnyC_one (i := 5) (by kernel_rfl) (wpOp_wanted rfl (by rfl) ?_)
  go_simp
  refine (kB _ hB4).mono ?_
  rintro e w5 ⟨rfl, hb5⟩
  dsimp only
  have hC5 := hC4.below hb5
  have hR5 := hR4.below hb5
  have hB5 := hB4.trans (hb5.mono hB4.size)
  refine ⟨hC5, ?_⟩
  (refine wpAnyC_take (i := 6) (v := ?_) hC5 rfl (by kernel_rfl) (by kernel_rfl) (by kernel_rfl) (fun _ _ _ h => h) (Or.inl ⟨by kernel_rfl, ?_⟩) ?_; rotate_left; (intro w hc;  clear hc; go_simp; try with_reducible rfl))
  have y0 := hR5.c0
  have y1 := hR5.c1
  have z0 := hR5.fz 0
  have z1 := hR5.fz 1
  refine wpAnyC_one (i := 7) (by kernel_rfl) (wpOp_wanted rfl (by rfl) ?_)
  go_simp
  have hC6 := (hC5.other hAR 0 (.string sa)).other hAR 1 (.string sb)
  have hR6 : Hx2 ((w5.setCell ⟨RR, 0, none⟩ (.string sa)).setCell ⟨RR, 1, none⟩ (.string sb)) RR (.string sa) (.string sb) := set_block (set_block hR5 0 _) 1 _
  have hB6 : Below w.heap.size w ((w5.setCell ⟨RR, 0, none⟩ (.string sa)).setCell ⟨RR, 1, none⟩ (.string sb)) := (hB5.setCell hBR _).setCell hBR _
  clear y0 y1 z0 z1
  refine ⟨hC6, wpAnyC_done (by kernel_rfl) ?_ _⟩
  generalize (w5.setCell ⟨RR, 0, none⟩ (.string sa)).setCell ⟨RR, 1, none⟩ (.string sb) = w6 at hC6 hR6 hB6 ⊢
  clear hC6 hC5 hR5 hB5 hb5 hC4 hR4 hB4 hb4 hC hR hB3 kA kB
  have y0 := hR6.c0
  have y1 := hR6.c1
  go_wp2
  refine bodyPost_ret (by simp [results, Tryd.results59, go_sem, y0, y1]; rfl) rfl ?_
  exact ⟨rfl, hB6⟩
end Go.Proofs.YtkmedgdpcifnoaaDoor
