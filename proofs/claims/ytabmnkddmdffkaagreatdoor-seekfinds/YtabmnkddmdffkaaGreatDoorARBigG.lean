import Derived.Test.YtabmnkddmdffkaaGreatDoorARHeadG
import Derived.Test.YtabmnkddmdffkaaGreatDoorARFloat
import Derived.Deep.QuietTactic
import Derived.BigQuiet
import Derived.Deep.Cut
namespace Go.Proofs.YtabmnkddmdffkaaGreatDoor.Arc
open Go.RowKit Go.Maps Go.Shelf
def findN (ms : List Mv) (b : Bs) : Option Nat := ms.findIdx? (fun m => m.name == b)
def placeR (ms : List Mv) (b : Bs) : Int := match findN ms b with | some i => (i : Nat) | none => -1
theorem findN_none {ms : List Mv} {b : Bs} (h : ∀ m ∈ ms, ¬ m.name = b) : findN ms b = none := by
 unfold findN
 rw [List.findIdx?_eq_none_iff]
 intro m hm
 exact beq_eq_false_iff_ne.2 (h m hm)
theorem findN_some {ms : List Mv} {b : Bs} {k : Nat} {m : Mv} (hk : ms[k]? = some m) (he : m.name = b) (hno : ∀ x ∈ ms.take k, ¬ x.name = b) : findN ms b = some k := by
 unfold findN
 have hl : k < ms.length := (List.getElem?_eq_some_iff.1 hk).1
 have he' : ms[k] = m := (List.getElem?_eq_some_iff.1 hk).2
 rw [List.findIdx?_eq_some_iff_getElem]
 refine ⟨hl, by rw [he']; exact beq_iff_eq.2 he, fun j hj => ?_⟩
 have : ms[j] ∈ ms.take k := by
  rw [List.mem_take_iff_getElem]
  exact ⟨j, by omega, rfl⟩
 simpa using hno _ this
set_option maxRecDepth 100000 in
set_option maxHeartbeats 1000000 in
theorem Find_row (g o cap : Nat) (ms : List Mv) (b : Bs) (w : World) (h : MRow w g o ms) (hr : ∀ m ∈ ms, Rds w m.dv m.data) (hl : ms.length ≤ 1099511627776) :
  Calls Tryz.prog 91 #[.slice (some ⟨g, o, none⟩) ms.length cap, .string (mk b)] w fun r w' => r = .returned (.int .i64 (placeR ms b)) ∧ Below w.heap.size w w' := by
 go_enter Tryz.func91, Tryz.ntmps91
 go_wp2
 go_loopw [5, 6, 9] (fun _ _ i wr => ∃ k : Nat, k ≤ ms.length ∧ i = .int .i64 k ∧ (∀ x ∈ ms.take k, ¬ x.name = b) ∧ Below w.heap.size w wr) (fun _ _ i _ => ms.length - (intOf i).toNat)
 case atStart => exact ⟨0, by omega, rfl, fun x hx => (by simp at hx), Below.refl _ _⟩
 case round =>
  obtain ⟨k, hk, rfl, hno, hB⟩ := hrel
  by_cases hkl : k < ms.length
  ·have k1 : (k : Int) < ms.length := by omega
   obtain ⟨m, hm⟩ : ∃ m, ms[k]? = some m := ⟨_, List.getElem?_eq_getElem hkl⟩
   have hR := h.below hB
   have d0 := hR.c0 k m hm
   have d1 := hR.c1 k m hm
   have d2 := hR.c2 k m hm
   obtain ⟨da, dc, hdv⟩ := (hr m (List.mem_of_getElem? hm)).len
   rw [hdv] at d2
   have hb1 := fun o => hB.alloc hB.size o
   by_cases he : m.name = b
   ·have hf : placeR ms b = (k : Nat) := by unfold placeR; rw [findN_some hm he hno]
    have HF := hide' hf
    rw [he] at d0
    clear h hr hR hno hm hf hB
    go_wp2
    go_ret
    rw [HF.out]
    exact ⟨rfl, hb1 _⟩
   ·have hq : (m.name == b) = false := beq_eq_false_iff_ne.2 he
    have hno2 : ∀ x ∈ ms.take (k + 1), ¬ x.name = b := fun x hx => by
     rw [List.take_add_one, hm] at hx
     rcases List.mem_append.1 hx with hx | hx
     ·exact hno x hx
     ·obtain rfl : x = m := by simpa using hx
      exact he
    have HN := hide' hno2
    clear h hr hR hno hno2 hm hB
    go_wp2
    exact ⟨⟨k + 1, by omega, by simp, HN.out, hb1 _⟩, by simp [intOf]; omega⟩
  ·obtain rfl : k = ms.length := by omega
   have k1 : ¬ (ms.length : Int) < ms.length := by omega
   rw [List.take_length] at hno
   have hf : placeR ms b = -1 := by unfold placeR; rw [findN_none hno]
   have HF := hide' hf
   clear h hr hno hf
   go_wp2
   go_ret
   rw [HF.out]
   exact ⟨rfl, hB⟩
set_option maxRecDepth 100000 in
theorem Find_nil (a : Option Addr) (c : Nat) (b : Bs) (w : World) : Calls Tryz.prog 91 #[.slice a 0 c, .string (mk b)] w fun r w' => r = .returned (.int .i64 (-1)) ∧ w' = w := by
 go_enter Tryz.func91, Tryz.ntmps91
 go_wp2
 go_loopw [5, 6, 9] (fun _ _ i wr => i = .int .i64 0 ∧ wr = w) (fun _ _ _ _ => 0)
 case atStart => exact ⟨rfl, rfl⟩
 case round =>
  obtain ⟨rfl, rfl⟩ := hrel
  go_wp2
  go_ret
  exact ⟨rfl, rfl⟩
theorem Find_any (v : Value) (ms : List Mv) (b : Bs) (w : World) (h : Mems w v ms) (hl : ms.length ≤ 1099511627776) : Calls Tryz.prog 91 #[v, .string (mk b)] w fun r w' => r = .returned (.int .i64 (placeR ms b)) ∧ Below w.heap.size w w' := by
 rcases h with ⟨⟨a, c, rfl⟩, rfl⟩ | ⟨g, o, cap, rfl, h0, h1, h2⟩
 ·exact (Find_nil a c b w).mono fun r w' ⟨hr, hw⟩ => ⟨hr, by rw [hw]; exact Below.refl _ _⟩
 ·exact Find_row g o cap ms b w h1 h2 hl
set_option maxRecDepth 100000 in
set_option maxHeartbeats 1000000 in
theorem Member_row (g o cap : Nat) (ms : List Mv) (b : Bs) (w : World) (h : MRow w g o ms) (hl : ms.length ≤ 1099511627776) :
  Calls Tryz.prog 36 #[.slice (some ⟨g, o, none⟩) ms.length cap, .string (mk b)] w fun r w' => r = .returned (.int .i64 (placeR ms b)) ∧ w' = w := by
 go_enter Tryz.func36, Tryz.ntmps36
 go_wp2
 go_loopw [5] (fun i wr => ∃ k : Nat, k ≤ ms.length ∧ i = .int .i64 k ∧ (∀ x ∈ ms.take k, ¬ x.name = b) ∧ wr = w) (fun i _ => ms.length - (intOf i).toNat)
 case atStart => exact ⟨0, by omega, rfl, fun x hx => (by simp at hx), rfl⟩
 case round =>
  obtain ⟨k, hk, rfl, hno, rfl⟩ := hrel
  by_cases hkl : k < ms.length
  ·have k1 : (k : Int) < ms.length := by omega
   obtain ⟨m, hm⟩ : ∃ m, ms[k]? = some m := ⟨_, List.getElem?_eq_getElem hkl⟩
   have d0 := h.c0 k m hm
   by_cases he : m.name = b
   ·have hf : placeR ms b = (k : Nat) := by unfold placeR; rw [findN_some hm he hno]
    have HF := hide' hf
    rw [he] at d0
    clear h hno hm hf
    go_wp2
    go_ret
    rw [HF.out]
    exact ⟨rfl, rfl⟩
   ·have hq : (m.name == b) = false := beq_eq_false_iff_ne.2 he
    have hno2 : ∀ x ∈ ms.take (k + 1), ¬ x.name = b := fun x hx => by
     rw [List.take_add_one, hm] at hx
     rcases List.mem_append.1 hx with hx | hx
     ·exact hno x hx
     ·obtain rfl : x = m := by simpa using hx
      exact he
    have HN := hide' hno2
    clear h hno hno2 hm
    go_wp2
    exact ⟨⟨k + 1, by omega, by simp, HN.out, trivial⟩, by simp [intOf]; omega⟩
  ·obtain rfl : k = ms.length := by omega
   have k1 : ¬ (ms.length : Int) < ms.length := by omega
   rw [List.take_length] at hno
   have hf : placeR ms b = -1 := by unfold placeR; rw [findN_none hno]
   have HF := hide' hf
   clear h hno hf
   go_wp2
   go_ret
   rw [HF.out]
   exact ⟨rfl, rfl⟩
set_option maxRecDepth 100000 in
theorem Member_any (v : Value) (ms : List Mv) (b : Bs) (w : World) (h : Mems w v ms) (hl : ms.length ≤ 1099511627776) : Calls Tryz.prog 36 #[v, .string (mk b)] w fun r w' => r = .returned (.int .i64 (placeR ms b)) ∧ w' = w := by
 rcases h with ⟨⟨a, c, rfl⟩, rfl⟩ | ⟨g, o, cap, rfl, h0, h1, h2⟩
 ·go_enter Tryz.func36, Tryz.ntmps36
  go_wp2
  go_loopw [5] (fun i wr => i = .int .i64 0 ∧ wr = w) (fun _ _ => 0)
  case atStart => exact ⟨rfl, rfl⟩
  case round =>
   obtain ⟨rfl, rfl⟩ := hrel
   go_wp2
   go_ret
   exact ⟨rfl, rfl⟩
 ·exact Member_row g o cap ms b w h1 hl
end Go.Proofs.YtabmnkddmdffkaaGreatDoor.Arc
namespace Go.Proofs.YtabmnkddmdffkaaGreatDoor.Arc
open Go.RowKit Go.Maps Go.Shelf
theorem sclone_any (s : ByteArray) (w : World) (hs : s.size ≤ 1099511627776) : Calls Tryz.prog 30 #[.string s] w fun r w' => r = .returned (.string s) ∧ Below w.heap.size w w' := by
 go_enter Tryz.func30, Tryz.ntmps30
 go_wp2_with (go_at_call 60; refine (Tryz.stringslite_Clone s _ (by omega)).mono ?_; rintro e w' ⟨rfl, hb⟩)
 go_ret
 exact ⟨rfl, hb⟩
theorem dat_of_own {w : World} {base : Nat} {v : Value} {bs : Bs} (h : w.ownsRow base 5 1 v bs.length (Lib.byteCells bs)) (hn : v ≠ .slice none 0 0) : Dat w v bs ∧ OwnB base v := by
 rcases h.2 with ⟨e, _⟩ | ⟨g, cap, cur, e, h1, h2, h3, h4, h5, h6⟩
 ·exact absurd e hn
 ·subst e
  exact ⟨.inr ⟨g, cap, cur, rfl, h2, h3, by omega, h4, by simpa using h6⟩, fun g' hg => by cases hg; exact h1⟩
theorem bclone_any (x : Value) (bs : Bs) (w : World) (h : Rds w x bs) (hl : bs.length ≤ 1099511627776) : Calls Tryz.prog 193 #[x] w fun r w' => (∃ v, r = .returned v ∧ Dat w' v bs ∧ OwnB w.heap.size v) ∧ Below w.heap.size w w' := by
 rcases h with ⟨rfl, rfl⟩ | ⟨a, cap, rfl, _, hc⟩
 ·exact (Tryz.bytes_Clone_nil 0 0 w).mono fun r w' ⟨hr, hw⟩ => ⟨⟨_, hr, .inl ⟨rfl, rfl⟩, OwnB.nil _⟩, by rw [hw]; exact Below.refl _ _⟩
 ·have hx : (bs.map fun b => (b.toNat : Int)).map (Value.int .u8) = Lib.byteCells bs := by rw [List.map_map]; rfl
  refine (Tryz.bytes_Clone_at a bs.length cap (bs.map fun b => (b.toNat : Int)) w (by simp) (by omega) fun i hi => ?_).mono ?_
  ·refine hc i _ ?_
   unfold Lib.byteCells
   rw [List.getElem?_map, List.getElem?_eq_getElem hi, List.getD_eq_getElem?_getD, List.getElem?_map, List.getElem?_eq_getElem hi]
   rfl
  ·rintro r w' ⟨v, rfl, ho, hn, hb⟩
   rw [hx] at ho
   obtain ⟨h1, h2⟩ := dat_of_own ho hn
   exact ⟨⟨v, rfl, h1, h2⟩, hb⟩
theorem res32 (tmps : Array Value) (b : Nat) (x y z : Value) (W : World) (h4 : tmps.getD 2 undef = .pointer (some ⟨b, 0, none⟩)) (hb : W.heap[b]? = some (.cells #[x, y, z] 86 (0, 0))) : (results Tryz.f169 tmps).run Tryz.prog W = .ok (.agg #[x, y, z]) W := by
 simp only [Array.getD_eq_getD_getElem?] at h4
 have c0 : W.cell? ⟨b, 0, none⟩ = some x := by rw [Lib.cell_of_heap hb]; rfl
 have c1 : W.cell? ⟨b, 1, none⟩ = some y := by rw [Lib.cell_of_heap hb]; rfl
 have c2 : W.cell? ⟨b, 2, none⟩ = some z := by rw [Lib.cell_of_heap hb]; rfl
 simp [results, Tryz.results169, go_sem, h4, c0, c1, c2]
theorem set_row {w : World} {A : Nat} {cs : Array Value} {T : TypeId} (h : w.heap[A]? = some (.cells cs T (0, 0))) (j : Nat) (v : Value) :
  (w.setCell ⟨A, j, none⟩ v).heap[A]? = some (.cells (cs.setIfInBounds j v) T (0, 0)) := by
 have hlt := lt_of_block h
 have h' : w.heap[A] = .cells cs T (0, 0) := by simpa [Array.getElem?_eq_getElem hlt] using h
 show (w.heap.modify A _)[A]? = _
 rw [Array.getElem?_eq_getElem (by simpa using hlt), Array.getElem_modify_self, h']
 rfl
structure PbC (b : Nat) (p : Value) (t : Int) (dv : Value) (w : World) : Prop where
 c0 : w.cell? ⟨b, 0, none⟩ = some p
 c1 : w.cell? ⟨b, 1, none⟩ = some (.int .i64 t)
 c2 : w.cell? ⟨b, 2, none⟩ = some dv
theorem PbC.below {b : Nat} {p : Value} {t : Int} {dv : Value} {w w' : World} (h : PbC b p t dv w) (hb : Below w.heap.size w w') (h1 : b < w.heap.size) : PbC b p t dv w' :=
 ⟨(hb.cell (p := ⟨b, 0, none⟩) h1).trans h.c0, (hb.cell (p := ⟨b, 1, none⟩) h1).trans h.c1, (hb.cell (p := ⟨b, 2, none⟩) h1).trans h.c2⟩
set_option maxRecDepth 100000 in
set_option maxHeartbeats 4000000 in
theorem own_any (m : Mv) (w : World) (hr : Rds w m.dv m.data) (hn : m.name.length ≤ 1099511627776) (hl : m.data.length ≤ 1099511627776) :
  Calls Tryz.prog 169 #[.agg #[.string (mk m.name), .int .i64 m.date, m.dv]] w fun r w' => (∃ v, r = .returned (.agg #[.string (mk m.name), .int .i64 m.date, v]) ∧ Dat w' v m.data ∧ OwnB w.heap.size v) ∧ Below w.heap.size w w' := by
 obtain ⟨da, dc, hdv⟩ := hr.len
 rw [hdv] at hr ⊢
 have hb0 : Below w.heap.size w ((w.alloc (.cells #[.string (mk m.name), .int .i64 m.date, .slice da m.data.length dc] 86)).alloc (.cells #[.string ⟨#[]⟩, .int .i64 0, .slice none 0 0] 86)) := ((Below.refl _ _).alloc (Nat.le_refl _) _).alloc (by simp) _
 have z1 := (Below.heap_alloc (w.alloc (.cells #[.string (mk m.name), .int .i64 m.date, .slice da m.data.length dc] 86)) (.cells #[.string ⟨#[]⟩, .int .i64 0, .slice none 0 0] 86) w.heap.size (by simp)).trans (alloc_new w _)
 have z2 := alloc_new (w.alloc (.cells #[.string (mk m.name), .int .i64 m.date, .slice da m.data.length dc] 86)) (.cells #[.string ⟨#[]⟩, .int .i64 0, .slice none 0 0] 86)
 rw [size_alloc'] at z2
 go_enter Tryz.func169, Tryz.ntmps169
 go_wp2
 refine wp_region_class (C := PbC w.heap.size (.string (mk m.name)) m.date (.slice da m.data.length dc)) (by kernel_rfl) ?_
 obtain ⟨w0, hw0⟩ : ∃ w0, w0 = World.drew ((w.alloc (.cells #[.string (mk m.name), .int .i64 m.date, .slice da m.data.length dc] 86)).alloc (.cells #[.string ⟨#[]⟩, .int .i64 0, .slice none 0 0] 86)) := ⟨_, rfl⟩
 have hb0 : Below w.heap.size w w0 := by rw [hw0]; exact hb0.drew
 have z1 : w0.heap[w.heap.size]? = some (.cells #[.string (mk m.name), .int .i64 m.date, .slice da m.data.length dc] 86 (0, 0)) := by rw [hw0]; exact z1
 have z2 : w0.heap[w.heap.size + 1]? = some (.cells #[.string ⟨#[]⟩, .int .i64 0, .slice none 0 0] 86 (0, 0)) := by rw [hw0]; exact z2
 have hs0 : w0.heap.size = w.heap.size + 2 := by rw [hw0]; show ((w.alloc _).alloc _).heap.size = _; simp
 have hP : PbC w.heap.size (.string (mk m.name)) m.date (.slice da m.data.length dc) w0 := ⟨by rw [Lib.cell_of_heap z1]; rfl, by rw [Lib.cell_of_heap z1]; rfl, by rw [Lib.cell_of_heap z1]; rfl⟩
 rw [← hw0]
 clear hw0
 (refine wpAnyC_take (i := 0) (v := ?_) hP rfl (by kernel_rfl) (by kernel_rfl) (by kernel_rfl) (fun _ _ _ h => h) (Or.inl ⟨by kernel_rfl, ?_⟩) ?_; rotate_left; (intro w hc; have k0 := hc.c0; have k1 := hc.c1; have k2 := hc.c2; clear hc; go_simp; try with_reducible rfl))
 (refine wpAnyC_take (i := 1) (v := ?_) hP rfl (by kernel_rfl) (by kernel_rfl) (by kernel_rfl) (fun _ _ _ h => h) (Or.inl ⟨by kernel_rfl, ?_⟩) ?_; rotate_left; (intro w hc; have k0 := hc.c0; have k1 := hc.c1; have k2 := hc.c2; clear hc; go_simp; try with_reducible rfl))
 (refine wpAnyC_take (i := 3) (v := ?_) hP rfl (by kernel_rfl) (by kernel_rfl) (by kernel_rfl) (fun _ _ _ h => h) (Or.inl ⟨by kernel_rfl, ?_⟩) ?_; rotate_left; (intro w hc; have k0 := hc.c0; have k1 := hc.c1; have k2 := hc.c2; clear hc; go_simp; try with_reducible rfl))
 (refine wpAnyC_take (i := 4) (v := ?_) hP rfl (by kernel_rfl) (by kernel_rfl) (by kernel_rfl) (fun _ _ _ h => h) (Or.inl ⟨by kernel_rfl, ?_⟩) ?_; rotate_left; (intro w hc; have k0 := hc.c0; have k1 := hc.c1; have k2 := hc.c2; clear hc; go_simp; try with_reducible rfl))
 (refine wpAnyC_take (i := 5) (v := ?_) hP rfl (by kernel_rfl) (by kernel_rfl) (by kernel_rfl) (fun _ _ _ h => h) (Or.inl ⟨by kernel_rfl, ?_⟩) ?_; rotate_left; (intro w hc; have k0 := hc.c0; have k1 := hc.c1; have k2 := hc.c2; clear hc; go_simp; try with_reducible rfl))
 (refine wpAnyC_take (i := 6) (v := ?_) hP rfl (by kernel_rfl) (by kernel_rfl) (by kernel_rfl) (fun _ _ _ h => h) (Or.inl ⟨by kernel_rfl, ?_⟩) ?_; rotate_left; (intro w hc; have k0 := hc.c0; have k1 := hc.c1; have k2 := hc.c2; clear hc; go_simp; try with_reducible rfl))
 refine wpAnyC_one (i := 2) (by kernel_rfl) (wpOp_wanted rfl (by rfl) ?_)
 go_simp
 refine (sclone_any (mk m.name) _ (by rw [mk_size]; omega)).mono ?_
 rintro r w1 ⟨rfl, hb1⟩
 dsimp only
 have hP1 := hP.below hb1 (by omega)
 have hs1 := hb1.size
 have hB1 := hb0.trans (hb1.mono hb0.size)
 refine ⟨hP1, ?_⟩
 refine wpAnyC_one (i := 7) (by kernel_rfl) (wpOp_wanted rfl (by rfl) ?_)
 go_simp
 refine (bclone_any _ m.data w1 (hr.below hB1) hl).mono ?_
 rintro r w2 ⟨⟨v2, rfl, hD2, hO2⟩, hb2⟩
 dsimp only
 have hP2 := hP1.below hb2 (by omega)
 have hs2 := hb2.size
 have hB2 := hB1.trans (hb2.mono hB1.size)
 have y2 := (hb2.block (w.heap.size + 1) (by omega)).trans ((hb1.block (w.heap.size + 1) (by omega)).trans z2)
 obtain ⟨a2, n2, c2, hv2⟩ := hD2.form
 subst hv2
 have s0 : w2.cell? ⟨w.heap.size + 1, 0, none⟩ = some (.string ⟨#[]⟩) := by rw [Lib.cell_of_heap y2]; rfl
 have s1 : w2.cell? ⟨w.heap.size + 1, 1, none⟩ = some (.int .i64 0) := by rw [Lib.cell_of_heap y2]; rfl
 have s2 : w2.cell? ⟨w.heap.size + 1, 2, none⟩ = some (.slice none 0 0) := by rw [Lib.cell_of_heap y2]; rfl
 have g0 := Lib.frozen_of_heap y2 0
 have g1 := Lib.frozen_of_heap y2 1
 have g2 := Lib.frozen_of_heap y2 2
 refine ⟨hP2, ?_⟩
 refine wpAnyC_one (i := 8) (by kernel_rfl) (wpOp_wanted rfl (by rfl) ?_)
 go_simp
 refine wpAnyC_one (i := 9) (by kernel_rfl) (wpOp_wanted rfl (by rfl) ?_)
 go_simp
 have hk : ∀ (k : Nat) (W : World) (u : Value) (j : Nat), k ≠ w.heap.size + 1 → (W.setCell ⟨w.heap.size + 1, j, none⟩ u).heap[k]? = W.heap[k]? := fun k W u j h => Below.heap_setCell _ _ _ _ h
 have q0 : ∀ u0 u1 u2, (((w2.setCell ⟨w.heap.size + 1, 0, none⟩ u0).setCell ⟨w.heap.size + 1, 1, none⟩ u1).setCell ⟨w.heap.size + 1, 2, none⟩ u2).heap[w.heap.size]? = w2.heap[w.heap.size]? := fun u0 u1 u2 => by rw [hk _ _ _ _ (by omega), hk _ _ _ _ (by omega), hk _ _ _ _ (by omega)]
 have x2 := (hb2.block w.heap.size (by omega)).trans ((hb1.block w.heap.size (by omega)).trans z1)
 have r2 := set_row (set_row (set_row y2 0 (.string (mk m.name))) 1 (.int .i64 m.date)) 2 (.slice a2 n2 c2)
 refine ⟨⟨by rw [Lib.cell_of_heap ((q0 _ _ _).trans x2)]; rfl, by rw [Lib.cell_of_heap ((q0 _ _ _).trans x2)]; rfl, by rw [Lib.cell_of_heap ((q0 _ _ _).trans x2)]; rfl⟩, ?_⟩
 refine wpAnyC_done (by kernel_rfl) ?_ _
 go_wp2
 refine bodyPost_ret (res32 _ _ _ _ _ _ rfl r2) rfl ?_
 refine ⟨⟨_, rfl, hD2.kept fun g hg => ?_, fun g hg => (by have := hO2 g hg; omega)⟩, ((hB2.setCell (by show w.heap.size ≤ w.heap.size + 1; omega) _).setCell (by show w.heap.size ≤ w.heap.size + 1; omega) _).setCell (by show w.heap.size ≤ w.heap.size + 1; omega) _⟩
 have hg1 := hO2 g hg
 rw [hk _ _ _ _ (by omega), hk _ _ _ _ (by omega), hk _ _ _ _ (by omega)]
end Go.Proofs.YtabmnkddmdffkaaGreatDoor.Arc
namespace Go.Proofs.YtabmnkddmdffkaaGreatDoor.Arc
open Go.RowKit Go.Maps
def wtB (m : Mv) : Nat := 1 + m.data.length + m.name.length
end Go.Proofs.YtabmnkddmdffkaaGreatDoor.Arc
