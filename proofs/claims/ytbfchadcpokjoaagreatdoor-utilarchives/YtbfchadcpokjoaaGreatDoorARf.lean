/- The contracts of ar.own, ar.Find, anvilref5.Member, anvillaw7.big. The contracts of bytes.Clone, strings.Clone, ar.own. The contracts of a piece's name and member. The contract of a piece's member. -/
import Derived.Test.YtbfchadcpokjoaaGreatDoorARb
import Derived.Test.YtbfchadcpokjoaaGreatDoorARc
import Derived.Test.YtbfchadcpokjoaaGreatDoorARCp
import Derived.Lib.SlBytesConst
namespace Go.Proofs.YtbfchadcpokjoaaGreatDoor.Arc
open Go.RowKit Go.Maps Go.Shelf
set_option maxRecDepth 100000

/-- the place of the first member of a name -/
def findN (ms : List Mv) (b : Bs) : Option Nat := ms.findIdx? (fun m => m.name == b)
def placeR (ms : List Mv) (b : Bs) : Int := match findN ms b with | some i => (i : Nat) | none => -1
theorem findN_none {ms : List Mv} {b : Bs} (h : ∀ m ∈ ms, ¬ m.name = b) : findN ms b = none := by
  unfold findN
  rw [List.findIdx?_eq_none_iff]
  intro m hm
  exact beq_eq_false_iff_ne.2 (h m hm)
theorem findN_some {ms : List Mv} {b : Bs} {k : Nat} {m : Mv} (hk : ms[k]? = some m) (he : m.name = b) (hno : ∀ x ∈ ms.take k, ¬ x.name = b) : findN ms b = some k := by
  unfold findN
  have hl : k < ms.length := (List.getElem?_eq_some_iff.1 hk).1
  have he' : ms[k] = m := (List.getElem?_eq_some_iff.1 hk).2
  rw [List.findIdx?_eq_some_iff_getElem]
  refine ⟨hl, by rw [he']; exact beq_iff_eq.2 he, fun j hj => ?_⟩
  have : ms[j] ∈ ms.take k := by
    rw [List.mem_take_iff_getElem]
    exact ⟨j, by omega, rfl⟩
  simpa using hno _ this
theorem findN_lt {ms : List Mv} {b : Bs} {k : Nat} (h : findN ms b = some k) : ∃ m, ms[k]? = some m ∧ m.name = b ∧ ∀ x ∈ ms.take k, ¬ x.name = b := by
  unfold findN at h
  rw [List.findIdx?_eq_some_iff_getElem] at h
  obtain ⟨hl, h1, h2⟩ := h
  refine ⟨ms[k], List.getElem?_eq_getElem hl, by simpa using h1, fun x hx => ?_⟩
  rw [List.mem_take_iff_getElem] at hx
  obtain ⟨j, hj, rfl⟩ := hx
  have := h2 j (by omega)
  simpa using this
set_option maxRecDepth 100000 in
set_option maxHeartbeats 1000000 in
theorem Find_row (g o cap : Nat) (ms : List Mv) (b : Bs) (w : World) (h : MRow w g o ms) (hr : ∀ m ∈ ms, Rds w m.dv m.data) (hl : ms.length ≤ 1099511627776) :
    Calls Tryz.prog 130 #[.slice (some ⟨g, o, none⟩) ms.length cap, .string (mk b)] w fun r w' => r = .returned (.int .i64 (placeR ms b)) ∧ Below w.heap.size w w' := by
  go_enter Tryz.func130, Tryz.ntmps130
  go_wp2
  go_loopw [5, 6, 9] (fun _ _ i wr => ∃ k : Nat, k ≤ ms.length ∧ i = .int .i64 k ∧ (∀ x ∈ ms.take k, ¬ x.name = b) ∧ Below w.heap.size w wr) (fun _ _ i _ => ms.length - (intOf i).toNat)
  case atStart => exact ⟨0, by omega, rfl, fun x hx => (by simp at hx), Below.refl _ _⟩
  case round =>
    obtain ⟨k, hk, rfl, hno, hB⟩ := hrel
    by_cases hkl : k < ms.length
    · have k1 : (k : Int) < ms.length := by omega
      obtain ⟨m, hm⟩ : ∃ m, ms[k]? = some m := ⟨_, List.getElem?_eq_getElem hkl⟩
      have hR := h.below hB
      have d0 := hR.c0 k m hm
      have d1 := hR.c1 k m hm
      have d2 := hR.c2 k m hm
      obtain ⟨da, dc, hdv⟩ := (hr m (List.mem_of_getElem? hm)).len
      rw [hdv] at d2
      have hb1 := fun o => hB.alloc hB.size o
      by_cases he : m.name = b
      · have hf : placeR ms b = (k : Nat) := by unfold placeR; rw [findN_some hm he hno]
        have HF := hide' hf
        rw [he] at d0
        clear h hr hR hno hm hf hB
        go_wp2
        go_ret
        rw [HF.out]
        exact ⟨rfl, hb1 _⟩
      · have hq : (m.name == b) = false := beq_eq_false_iff_ne.2 he
        have hno2 : ∀ x ∈ ms.take (k + 1), ¬ x.name = b := fun x hx => by
          rw [List.take_add_one, hm] at hx
          rcases List.mem_append.1 hx with hx | hx
          · exact hno x hx
          · obtain rfl : x = m := by simpa using hx
            exact he
        have HN := hide' hno2
        clear h hr hR hno hno2 hm hB
        go_wp2
        exact ⟨⟨k + 1, by omega, by simp, HN.out, hb1 _⟩, by simp [intOf]; omega⟩
    · obtain rfl : k = ms.length := by omega
      have k1 : ¬ (ms.length : Int) < ms.length := by omega
      rw [List.take_length] at hno
      have hf : placeR ms b = -1 := by unfold placeR; rw [findN_none hno]
      have HF := hide' hf
      clear h hr hno hf
      go_wp2
      go_ret
      rw [HF.out]
      exact ⟨rfl, hB⟩
set_option maxRecDepth 100000 in
theorem Find_nil (a : Option Addr) (c : Nat) (b : Bs) (w : World) : Calls Tryz.prog 130 #[.slice a 0 c, .string (mk b)] w fun r w' => r = .returned (.int .i64 (-1)) ∧ w' = w := by
  go_enter Tryz.func130, Tryz.ntmps130
  go_wp2
  go_loopw [5, 6, 9] (fun _ _ i wr => i = .int .i64 0 ∧ wr = w) (fun _ _ _ _ => 0)
  case atStart => exact ⟨rfl, rfl⟩
  case round =>
    obtain ⟨rfl, rfl⟩ := hrel
    go_wp2
    go_ret
    exact ⟨rfl, rfl⟩
theorem Find_any (v : Value) (ms : List Mv) (b : Bs) (w : World) (h : Mems w v ms) (hl : ms.length ≤ 1099511627776) : Calls Tryz.prog 130 #[v, .string (mk b)] w fun r w' => r = .returned (.int .i64 (placeR ms b)) ∧ Below w.heap.size w w' := by
  rcases h with ⟨⟨a, c, rfl⟩, rfl⟩ | ⟨g, o, cap, rfl, h0, h1, h2⟩
  · exact (Find_nil a c b w).mono fun r w' ⟨hr, hw⟩ => ⟨hr, by rw [hw]; exact Below.refl _ _⟩
  · exact Find_row g o cap ms b w h1 h2 hl
end Go.Proofs.YtbfchadcpokjoaaGreatDoor.Arc
namespace Go.Proofs.YtbfchadcpokjoaaGreatDoor.Arc
open Go.RowKit Go.Maps Go.Shelf
set_option maxRecDepth 100000

theorem sclone_any (s : ByteArray) (w : World) (hs : s.size ≤ 1099511627776) : Calls Tryz.prog 30 #[.string s] w fun r w' => r = .returned (.string s) ∧ Below w.heap.size w w' := by
  go_enter Tryz.func30, Tryz.ntmps30
  go_wp2_with (go_at_call 61; refine (Tryz.stringslite_Clone s _ (by omega)).mono ?_; rintro e w' ⟨rfl, hb⟩)
  go_ret
  exact ⟨rfl, hb⟩
theorem dat_of_own {w : World} {base : Nat} {v : Value} {bs : Bs} (h : w.ownsRow base 5 1 v bs.length (Lib.byteCells bs)) (hn : v ≠ .slice none 0 0) : Dat w v bs ∧ OwnB base v := by
  rcases h.2 with ⟨e, _⟩ | ⟨g, cap, cur, e, h1, h2, h3, h4, h5, h6⟩
  · exact absurd e hn
  · subst e
    exact ⟨.inr ⟨g, cap, cur, rfl, h2, h3, by omega, h4, by simpa using h6⟩, fun g' hg => by cases hg; exact h1⟩
theorem bclone_any (x : Value) (bs : Bs) (w : World) (h : Rds w x bs) (hl : bs.length ≤ 1099511627776) : Calls Tryz.prog 186 #[x] w fun r w' => (∃ v, r = .returned v ∧ Dat w' v bs ∧ OwnB w.heap.size v) ∧ Below w.heap.size w w' := by
  rcases h with ⟨rfl, rfl⟩ | ⟨a, cap, rfl, _, hc⟩
  · exact (Tryz.bytes_Clone_nil 0 0 w).mono fun r w' ⟨hr, hw⟩ => ⟨⟨_, hr, .inl ⟨rfl, rfl⟩, OwnB.nil _⟩, by rw [hw]; exact Below.refl _ _⟩
  · have hx : (bs.map fun b => (b.toNat : Int)).map (Value.int .u8) = Lib.byteCells bs := by rw [List.map_map]; rfl
    refine (Tryz.bytes_Clone_at a bs.length cap (bs.map fun b => (b.toNat : Int)) w (by simp) (by omega) fun i hi => ?_).mono ?_
    · refine hc i _ ?_
      unfold Lib.byteCells
      rw [List.getElem?_map, List.getElem?_eq_getElem hi, List.getD_eq_getElem?_getD, List.getElem?_map, List.getElem?_eq_getElem hi]
      rfl
    · rintro r w' ⟨v, rfl, ho, hn, hb⟩
      rw [hx] at ho
      obtain ⟨h1, h2⟩ := dat_of_own ho hn
      exact ⟨⟨v, rfl, h1, h2⟩, hb⟩
theorem res32 (tmps : Array Value) (b : Nat) (x y z : Value) (W : World) (h4 : tmps.getD 2 undef = .pointer (some ⟨b, 0, none⟩)) (hb : W.heap[b]? = some (.cells #[x, y, z] 185 (0, 0))) : (results Tryz.f160 tmps).run Tryz.prog W = .ok (.agg #[x, y, z]) W := by
  simp only [Array.getD_eq_getD_getElem?] at h4
  have c0 : W.cell? ⟨b, 0, none⟩ = some x := by rw [Lib.cell_of_heap hb]; rfl
  have c1 : W.cell? ⟨b, 1, none⟩ = some y := by rw [Lib.cell_of_heap hb]; rfl
  have c2 : W.cell? ⟨b, 2, none⟩ = some z := by rw [Lib.cell_of_heap hb]; rfl
  simp [results, Tryz.results160, go_sem, h4, c0, c1, c2]
theorem set_row {w : World} {A : Nat} {cs : Array Value} {T : TypeId} (h : w.heap[A]? = some (.cells cs T (0, 0))) (j : Nat) (v : Value) :
    (w.setCell ⟨A, j, none⟩ v).heap[A]? = some (.cells (cs.setIfInBounds j v) T (0, 0)) := by
  have hlt := lt_of_block h
  have h' : w.heap[A] = .cells cs T (0, 0) := by simpa [Array.getElem?_eq_getElem hlt] using h
  show (w.heap.modify A _)[A]? = _
  rw [Array.getElem?_eq_getElem (by simpa using hlt), Array.getElem_modify_self, h']
  rfl
structure PbC (b : Nat) (p : Value) (t : Int) (dv : Value) (w : World) : Prop where
  c0 : w.cell? ⟨b, 0, none⟩ = some p
  c1 : w.cell? ⟨b, 1, none⟩ = some (.int .i64 t)
  c2 : w.cell? ⟨b, 2, none⟩ = some dv
theorem PbC.below {b : Nat} {p : Value} {t : Int} {dv : Value} {w w' : World} (h : PbC b p t dv w) (hb : Below w.heap.size w w') (h1 : b < w.heap.size) : PbC b p t dv w' :=
  ⟨(hb.cell (p := ⟨b, 0, none⟩) h1).trans h.c0, (hb.cell (p := ⟨b, 1, none⟩) h1).trans h.c1, (hb.cell (p := ⟨b, 2, none⟩) h1).trans h.c2⟩
set_option maxRecDepth 100000 in
set_option maxHeartbeats 4000000 in
theorem own_any (m : Mv) (w : World) (hr : Rds w m.dv m.data) (hn : m.name.length ≤ 1099511627776) (hl : m.data.length ≤ 1099511627776) :
    Calls Tryz.prog 160 #[.agg #[.string (mk m.name), .int .i64 m.date, m.dv]] w fun r w' => (∃ v, r = .returned (.agg #[.string (mk m.name), .int .i64 m.date, v]) ∧ Dat w' v m.data ∧ OwnB w.heap.size v) ∧ Below w.heap.size w w' := by
  obtain ⟨da, dc, hdv⟩ := hr.len
  rw [hdv] at hr ⊢
  have hb0 : Below w.heap.size w ((w.alloc (.cells #[.string (mk m.name), .int .i64 m.date, .slice da m.data.length dc] 185)).alloc (.cells #[.string ⟨#[]⟩, .int .i64 0, .slice none 0 0] 185)) := ((Below.refl _ _).alloc (Nat.le_refl _) _).alloc (by simp) _
  have z1 := (Below.heap_alloc (w.alloc (.cells #[.string (mk m.name), .int .i64 m.date, .slice da m.data.length dc] 185)) (.cells #[.string ⟨#[]⟩, .int .i64 0, .slice none 0 0] 185) w.heap.size (by simp)).trans (alloc_new w _)
  have z2 := alloc_new (w.alloc (.cells #[.string (mk m.name), .int .i64 m.date, .slice da m.data.length dc] 185)) (.cells #[.string ⟨#[]⟩, .int .i64 0, .slice none 0 0] 185)
  rw [size_alloc'] at z2
  go_enter Tryz.func160, Tryz.ntmps160
  go_wp2
  refine wp_region_class (C := PbC w.heap.size (.string (mk m.name)) m.date (.slice da m.data.length dc)) (by kernel_rfl) ?_
  obtain ⟨w0, hw0⟩ : ∃ w0, w0 = World.drew ((w.alloc (.cells #[.string (mk m.name), .int .i64 m.date, .slice da m.data.length dc] 185)).alloc (.cells #[.string ⟨#[]⟩, .int .i64 0, .slice none 0 0] 185)) := ⟨_, rfl⟩
  have hb0 : Below w.heap.size w w0 := by rw [hw0]; exact hb0.drew
  have z1 : w0.heap[w.heap.size]? = some (.cells #[.string (mk m.name), .int .i64 m.date, .slice da m.data.length dc] 185 (0, 0)) := by rw [hw0]; exact z1
  have z2 : w0.heap[w.heap.size + 1]? = some (.cells #[.string ⟨#[]⟩, .int .i64 0, .slice none 0 0] 185 (0, 0)) := by rw [hw0]; exact z2
  have hs0 : w0.heap.size = w.heap.size + 2 := by rw [hw0]; show ((w.alloc _).alloc _).heap.size = _; simp
  have hP : PbC w.heap.size (.string (mk m.name)) m.date (.slice da m.data.length dc) w0 := ⟨by rw [Lib.cell_of_heap z1]; rfl, by rw [Lib.cell_of_heap z1]; rfl, by rw [Lib.cell_of_heap z1]; rfl⟩
  rw [← hw0]
  clear hw0
  (refine wpAnyC_take (i := 0) (v := ?_) hP rfl (by kernel_rfl) (by kernel_rfl) (by kernel_rfl) (fun _ _ _ h => h) (Or.inl ⟨by kernel_rfl, ?_⟩) ?_; rotate_left; (intro w hc; have k0 := hc.c0; have k1 := hc.c1; have k2 := hc.c2; clear hc; go_simp; try with_reducible rfl))
  (refine wpAnyC_take (i := 1) (v := ?_) hP rfl (by kernel_rfl) (by kernel_rfl) (by kernel_rfl) (fun _ _ _ h => h) (Or.inl ⟨by kernel_rfl, ?_⟩) ?_; rotate_left; (intro w hc; have k0 := hc.c0; have k1 := hc.c1; have k2 := hc.c2; clear hc; go_simp; try with_reducible rfl))
  (refine wpAnyC_take (i := 3) (v := ?_) hP rfl (by kernel_rfl) (by kernel_rfl) (by kernel_rfl) (fun _ _ _ h => h) (Or.inl ⟨by kernel_rfl, ?_⟩) ?_; rotate_left; (intro w hc; have k0 := hc.c0; have k1 := hc.c1; have k2 := hc.c2; clear hc; go_simp; try with_reducible rfl))
  (refine wpAnyC_take (i := 4) (v := ?_) hP rfl (by kernel_rfl) (by kernel_rfl) (by kernel_rfl) (fun _ _ _ h => h) (Or.inl ⟨by kernel_rfl, ?_⟩) ?_; rotate_left; (intro w hc; have k0 := hc.c0; have k1 := hc.c1; have k2 := hc.c2; clear hc; go_simp; try with_reducible rfl))
  (refine wpAnyC_take (i := 5) (v := ?_) hP rfl (by kernel_rfl) (by kernel_rfl) (by kernel_rfl) (fun _ _ _ h => h) (Or.inl ⟨by kernel_rfl, ?_⟩) ?_; rotate_left; (intro w hc; have k0 := hc.c0; have k1 := hc.c1; have k2 := hc.c2; clear hc; go_simp; try with_reducible rfl))
  (refine wpAnyC_take (i := 6) (v := ?_) hP rfl (by kernel_rfl) (by kernel_rfl) (by kernel_rfl) (fun _ _ _ h => h) (Or.inl ⟨by kernel_rfl, ?_⟩) ?_; rotate_left; (intro w hc; have k0 := hc.c0; have k1 := hc.c1; have k2 := hc.c2; clear hc; go_simp; try with_reducible rfl))
  refine wpAnyC_one (i := 2) (by kernel_rfl) (wpOp_wanted rfl (by rfl) ?_)
  go_simp
  refine (sclone_any (mk m.name) _ (by rw [mk_size]; omega)).mono ?_
  rintro r w1 ⟨rfl, hb1⟩
  dsimp only
  have hP1 := hP.below hb1 (by omega)
  have hs1 := hb1.size
  have hB1 := hb0.trans (hb1.mono hb0.size)
  refine ⟨hP1, ?_⟩
  refine wpAnyC_one (i := 7) (by kernel_rfl) (wpOp_wanted rfl (by rfl) ?_)
  go_simp
  refine (bclone_any _ m.data w1 (hr.below hB1) hl).mono ?_
  rintro r w2 ⟨⟨v2, rfl, hD2, hO2⟩, hb2⟩
  dsimp only
  have hP2 := hP1.below hb2 (by omega)
  have hs2 := hb2.size
  have hB2 := hB1.trans (hb2.mono hB1.size)
  have y2 := (hb2.block (w.heap.size + 1) (by omega)).trans ((hb1.block (w.heap.size + 1) (by omega)).trans z2)
  obtain ⟨a2, n2, c2, hv2⟩ := hD2.form
  subst hv2
  have s0 : w2.cell? ⟨w.heap.size + 1, 0, none⟩ = some (.string ⟨#[]⟩) := by rw [Lib.cell_of_heap y2]; rfl
  have s1 : w2.cell? ⟨w.heap.size + 1, 1, none⟩ = some (.int .i64 0) := by rw [Lib.cell_of_heap y2]; rfl
  have s2 : w2.cell? ⟨w.heap.size + 1, 2, none⟩ = some (.slice none 0 0) := by rw [Lib.cell_of_heap y2]; rfl
  have g0 := Lib.frozen_of_heap y2 0
  have g1 := Lib.frozen_of_heap y2 1
  have g2 := Lib.frozen_of_heap y2 2
  refine ⟨hP2, ?_⟩
  refine wpAnyC_one (i := 8) (by kernel_rfl) (wpOp_wanted rfl (by rfl) ?_)
  go_simp
  refine wpAnyC_one (i := 9) (by kernel_rfl) (wpOp_wanted rfl (by rfl) ?_)
  go_simp
  have hk : ∀ (k : Nat) (W : World) (u : Value) (j : Nat), k ≠ w.heap.size + 1 → (W.setCell ⟨w.heap.size + 1, j, none⟩ u).heap[k]? = W.heap[k]? := fun k W u j h => Below.heap_setCell _ _ _ _ h
  have q0 : ∀ u0 u1 u2, (((w2.setCell ⟨w.heap.size + 1, 0, none⟩ u0).setCell ⟨w.heap.size + 1, 1, none⟩ u1).setCell ⟨w.heap.size + 1, 2, none⟩ u2).heap[w.heap.size]? = w2.heap[w.heap.size]? := fun u0 u1 u2 => by rw [hk _ _ _ _ (by omega), hk _ _ _ _ (by omega), hk _ _ _ _ (by omega)]
  have x2 := (hb2.block w.heap.size (by omega)).trans ((hb1.block w.heap.size (by omega)).trans z1)
  have r2 := set_row (set_row (set_row y2 0 (.string (mk m.name))) 1 (.int .i64 m.date)) 2 (.slice a2 n2 c2)
  refine ⟨⟨by rw [Lib.cell_of_heap ((q0 _ _ _).trans x2)]; rfl, by rw [Lib.cell_of_heap ((q0 _ _ _).trans x2)]; rfl, by rw [Lib.cell_of_heap ((q0 _ _ _).trans x2)]; rfl⟩, ?_⟩
  refine wpAnyC_done (by kernel_rfl) ?_ _
  go_wp2
  refine bodyPost_ret (res32 _ _ _ _ _ _ rfl r2) rfl ?_
  refine ⟨⟨_, rfl, hD2.kept fun g hg => ?_, fun g hg => (by have := hO2 g hg; omega)⟩, ((hB2.setCell (by show w.heap.size ≤ w.heap.size + 1; omega) _).setCell (by show w.heap.size ≤ w.heap.size + 1; omega) _).setCell (by show w.heap.size ≤ w.heap.size + 1; omega) _⟩
  have hg1 := hO2 g hg
  rw [hk _ _ _ _ (by omega), hk _ _ _ _ (by omega), hk _ _ _ _ (by omega)]
end Go.Proofs.YtbfchadcpokjoaaGreatDoor.Arc
namespace Go.Proofs.YtbfchadcpokjoaaGreatDoor.Arc
open Go.RowKit Go.Maps Go.Shelf
set_option maxRecDepth 100000

/-- what the library's variable MaxLen holds: some number -/
def Mx (w : World) : Prop := ∃ m, w.cell? ⟨2, 0, none⟩ = some (.int .i64 m)
theorem Mx.below {w w' : World} {B : Nat} (h : Mx w) (hb : Below B w w') (hB : 2 < B) : Mx w' := by
  obtain ⟨m, hm⟩ := h
  exact ⟨m, (hb.cell (p := ⟨2, 0, none⟩) hB).trans hm⟩
/-- the table: none yet, or a slice of bytes -/
def Tbs (w : World) (v : Value) (t : Bs) : Prop := (v = .slice none 0 0 ∧ t = []) ∨ Bsl w v t
theorem Bsl.below {w w' : World} {v : Value} {t : Bs} (h : Bsl w v t) (hb : Below w.heap.size w w') : Bsl w' v t := by
  obtain ⟨a, n, cap, h1, h2, h3, h4⟩ := h
  exact ⟨a, n, cap, h1, h2, h3, h4.below hb⟩
theorem Tbs.below {w w' : World} {v : Value} {t : Bs} (h : Tbs w v t) (hb : Below w.heap.size w w') : Tbs w' v t := by
  rcases h with h | h
  · exact .inl h
  · exact .inr (h.below hb)
def nums (b : Bs) : List Int := b.map fun x => (x.toNat : Int)
theorem bytesOf_nums (b : Bs) : Lib.bytesOf (nums b) = b := by
  unfold Lib.bytesOf nums
  rw [List.map_map]
  conv => rhs; rw [← List.map_id b]
  apply List.map_congr_left
  intro x _
  simp
theorem bytesIn_of {w : World} {a : Addr} {n cap : Nat} {bs : Bs} (h : Rds w (.slice (some a) n cap) bs) (hn : n = bs.length) : Lib.BytesIn w (some a) n (nums bs) := by
  rcases h with ⟨e, _⟩ | ⟨a', c, e, _, hc⟩
  · cases e
  · cases e
    refine Lib.BytesIn.of_cells fun i hi => hc i _ ?_
    unfold Lib.byteCells nums
    rw [List.getElem?_map, List.getElem?_eq_getElem (by omega), List.getD_eq_getElem?_getD, List.getElem?_map, List.getElem?_eq_getElem (by omega)]
    rfl
theorem nums_range (b : Bs) : ∀ x ∈ nums b, 0 ≤ x ∧ x < 256 := by
  intro x hx
  unfold nums at hx
  obtain ⟨y, _, rfl⟩ := List.mem_map.1 hx
  have := y.toNat_lt
  exact ⟨by omega, by omega⟩
theorem nums_len (b : Bs) : (nums b).length = b.length := by unfold nums; simp
def NmR (c t : Bs) (r : Ending) : Prop := match nameP c t with
  | some nm => r = .returned (.tuple #[.string (mk nm), .bool true])
  | none => ∃ s, r = .returned (.tuple #[.string s, .bool false])
abbrev pcCells (c0 c1 c2 c3 c4 c5 : Bs) (dv : Value) : Array Value := #[.string (mk c0), .string (mk c1), .string (mk c2), .string (mk c3), .string (mk c4), .string (mk c5), dv]
theorem nameP_short (c t : Bs) (hp : Lib.hasPrefix c [47] = false) : nameP c t = if Lib.hasSuffix c [47] = true then some (c.take (c.length - 1)) else none := by
  unfold nameP
  rw [if_neg (by rw [hp]; decide)]
set_option maxRecDepth 100000 in
set_option maxHeartbeats 2000000 in
theorem name_sh (c0 c1 c2 c3 c4 c5 : Bs) (tv : Value) (t : Bs) (w : World) (da : Option Addr) (dn dc : Nat) (hl : c0.length ≤ 16) (hp : Lib.hasPrefix c0 [47] = false) :
    Calls Tryz.prog 224 #[pcv c0 c1 c2 c3 c4 c5 (.slice da dn dc), tv] w fun r w' => Below w.heap.size w w' ∧ NmR c0 t r := by
  have q1 := fun w => Tryz.strings_CutPrefix (mk c0) ⟨#[47]⟩ w
  have q2 := fun w => Tryz.strings_CutSuffix (mk c0) ⟨#[47]⟩ w (by rw [mk_size]; omega)
  have e1 : Lib.trimPrefix c0 [47] = c0 := by unfold Lib.trimPrefix; rw [hp]; rfl
  have e2 : ∀ b, Lib.hasSuffix c0 [47] = b → Lib.trimSuffix c0 [47] = if b then c0.take (c0.length - 1) else c0 := fun b h => by unfold Lib.trimSuffix; rw [h]; rfl
  have hn := nameP_short c0 t hp
  have hbW : Below w.heap.size w (w.alloc (.cells (pcCells c0 c1 c2 c3 c4 c5 (.slice da dn dc)) 248)) := (Below.refl _ _).alloc (Nat.le_refl _) _
  dsimp only [mk] at q1 q2
  rw [e1, hp] at q1
  cases hs : Lib.hasSuffix c0 [47] with
  | true =>
    rw [hs, if_pos rfl] at hn
    rw [hs, e2 true hs, if_pos rfl] at q2
    have HN := hide' hn
    clear hn e1 e2 hs hp
    go_enter Tryz.func224, Tryz.ntmps224
    go_wp2_with fail
    refine (q1 _).mono ?_
    rintro e w' ⟨rfl, he⟩
    subst he
    go_wp2_with fail
    refine (q2 _).mono ?_
    rintro e w' ⟨rfl, he⟩
    subst he
    go_wp2_with fail
    go_ret2
    refine ⟨hbW, ?_⟩
    unfold NmR
    rw [HN.out]
    rfl
  | false =>
    rw [hs, if_neg (by decide)] at hn
    rw [hs, e2 false hs, if_neg (by decide)] at q2
    have HN := hide' hn
    clear hn e1 e2 hs hp
    go_enter Tryz.func224, Tryz.ntmps224
    go_wp2_with fail
    refine (q1 _).mono ?_
    rintro e w' ⟨rfl, he⟩
    subst he
    go_wp2_with fail
    refine (q2 _).mono ?_
    rintro e w' ⟨rfl, he⟩
    subst he
    go_wp2_with fail
    go_ret2
    refine ⟨hbW, ?_⟩
    unfold NmR
    rw [HN.out]
    exact ⟨_, rfl⟩
theorem nameP_long (c t : Bs) (hp : Lib.hasPrefix c [47] = true) : (valP (c.drop 1) = none → nameP c t = none) ∧ ∀ k, valP (c.drop 1) = some k → (¬ k ≤ t.length → nameP c t = none) ∧ (k ≤ t.length → nameP c t = if 0 ≤ Lib.index (t.drop k) [47, 10] then some ((t.drop k).take (Lib.index (t.drop k) [47, 10]).toNat) else none) := by
  refine ⟨fun h => ?_, fun k h => ⟨fun h2 => ?_, fun h2 => ?_⟩⟩
  · unfold nameP; rw [if_pos hp, h]
  · unfold nameP; rw [if_pos hp, h]; dsimp only; rw [if_neg h2]
  · unfold nameP; rw [if_pos hp, h]; dsimp only; rw [if_pos h2]
    unfold Lib.cut
    split
    · rfl
    · rfl
set_option maxRecDepth 100000 in
set_option maxHeartbeats 2000000 in
theorem name_lg (c0 c1 c2 c3 c4 c5 : Bs) (p1 : Option Addr) (n c : Nat) (t : Bs) (w : World) (da : Option Addr) (dn dc : Nat) (hl : c0.length ≤ 16) (hp : Lib.hasPrefix c0 [47] = true) (hE : EvS w) (h3 : 9 < w.heap.size) (hn : n = t.length) (hnn : n ≤ 100000) (hT : Tbs w (.slice p1 n c) t) (hnc : n ≤ c) (hM : Mx w) :
    Calls Tryz.prog 224 #[pcv c0 c1 c2 c3 c4 c5 (.slice da dn dc), .slice p1 n c] w fun r w' => Below w.heap.size w w' ∧ NmR c0 t r := by
  have q1 := fun w => Tryz.strings_CutPrefix (mk c0) ⟨#[47]⟩ w
  have e1 : Lib.trimPrefix c0 [47] = c0.drop 1 := by unfold Lib.trimPrefix; rw [hp]; rfl
  have hnm := nameP_long c0 t hp
  have hbW : Below w.heap.size w (w.alloc (.cells (pcCells c0 c1 c2 c3 c4 c5 (.slice da dn dc)) 248)) := (Below.refl _ _).alloc (Nat.le_refl _) _
  dsimp only [mk] at q1
  rw [e1, hp] at q1
  have qv := value_any (mk (c0.drop 1)) _ (by rw [mk_size, List.length_drop]; omega) (hE.below hbW h3) (Nat.lt_of_lt_of_le h3 hbW.size)
  rw [tl_mk (c0.drop 1)] at qv
  generalize c0.drop 1 = pl at q1 qv hnm
  have HNM := hide' hnm
  have HNN := hide' hn
  clear hnm e1 hp hn
  go_enter Tryz.func224, Tryz.ntmps224
  go_wp2_with fail
  refine (q1 _).mono ?_
  rintro e w' ⟨rfl, he⟩
  subst he
  go_wp2_with fail
  refine qv.mono ?_
  rintro r w2 ⟨hb2, ⟨k, hv, rfl⟩ | ⟨hv, rfl⟩⟩
  · have HV := hide' hv
    have hB2 := hbW.trans (hb2.mono hbW.size)
    have HB := hide' hB2
    clear hv hb2 qv q1
    by_cases hk : k ≤ n
    · have g1 : ¬ (n : Int) < (k : Int) := by omega
      have g2 : (k : Int) ≤ (n : Int) := by omega
      have hcv := Lib.run_convert_bytes_const (P := Tryz.prog) w2 33 5 #[.int .u8 47, .int .u8 10] 2 2 Tryz.underlying33 Tryz.underlying5
      have hk' : k ≤ t.length := by rw [← HNN.out]; exact hk
      have hnm2 := (HNM.out.2 k HV.out).2 hk'
      have HN2 := hide' hnm2
      have HT := hide' hT
      clear hnm2 hT HNM hE hbW
      obtain ⟨W3, hW3⟩ : ∃ W, W = w2.alloc (.cells #[.int .u8 47, .int .u8 10] 5 (2, 3)) := ⟨_, rfl⟩
      have hb3 : Below w2.heap.size w2 W3 := by rw [hW3]; exact (Below.refl _ _).alloc (Nat.le_refl _) _
      have hB3 := hB2.trans (hb3.mono hB2.size)
      have hs3 : W3.heap[w2.heap.size]? = some (.cells #[.int .u8 47, .int .u8 10] 5 (2, 3)) := by rw [hW3]; exact heap_alloc_new w2 _
      have hsep : Lib.BytesIn W3 (some ⟨w2.heap.size, 0, none⟩) 2 (nums [47, 10]) := Lib.BytesIn.of_cells fun i hi => by
        rw [Addr.add_lit, Nat.zero_add, Lib.cell_of_heap hs3]
        match i, hi with
        | 0, _ => rfl
        | 1, _ => rfl
      obtain ⟨mx, hmx⟩ := hM.below hB3 (by omega)
      have HW3 := hide' hW3
      clear hW3 hs3 hb3 hB2
      by_cases hck : c = k
      · have hz : n - k = 0 := by omega
        have hd : t.drop k = [] := List.drop_eq_nil_of_le (by rw [← HNN.out]; omega)
        have hidx : Lib.index (t.drop k) [47, 10] = -1 := by rw [hd]; rfl
        have qc := Tryz.bytes_Cut_all p1 (some ⟨w2.heap.size, 0, none⟩) 0 0 2 2 [] (nums [47, 10]) mx W3 rfl rfl (by simp) (nums_range _) (Lib.BytesIn.nil _ _ _) hsep (fun _ => rfl) (Nat.le_refl _) (by decide) (by decide) hmx
        rw [bytesOf_nums] at qc
        have hi2 : Lib.index (Lib.bytesOf []) [47, 10] = -1 := rfl
        rw [hi2] at qc
        have hcv0 : Lib.cutV p1 0 0 2 (-1) = .tuple #[.slice p1 0 0, .slice none 0 0, .bool false] := rfl
        rw [hcv0] at qc
        have hst : ∀ q, (convert 33 9 (.slice p1 0 0)).run Tryz.prog (W3.drewN q) = .ok (.string (mk [])) (W3.drewN q) := fun q => rds_str (by
          cases p1 with
          | none => exact .inl ⟨rfl, rfl⟩
          | some a => exact rds_empty _ _ _)
        rw [hidx, if_neg (by decide)] at HN2
        clear hd hidx hi2 hcv0 hmx hsep HT hk hk' hnc hnn
        go_wp2_with fail
        rw [← HW3.out]
        refine qc.mono ?_
        rintro r w4 ⟨rfl, q, rfl⟩
        have hst := hst q
        clear qc
        go_wp2_with fail
        go_ret2
        refine ⟨hB3.trans (below_drewn _), ?_⟩
        unfold NmR
        rw [HN2.out]
        exact ⟨_, rfl⟩
      · obtain ⟨a, rfl⟩ : ∃ a, p1 = some a := by
          rcases HT.out with ⟨e, _⟩ | ⟨a, n', c', e, _⟩
          · cases e; omega
          · cases e; exact ⟨_, rfl⟩
        have hR : Rds w (.slice (some a) n c) t := by
          rcases HT.out with ⟨e, _⟩ | ⟨a, n', c', e, _, _, hr⟩
          · cases e
          · exact hr
        have hR3 := hR.below hB3
        have hRk := fun m c' (h : k + m ≤ n) => rds_part hR3 HNN.out k m c' h
        have hRw := hRk (n - k) (c - k) (by omega)
        rw [List.take_of_length_le (by rw [List.length_drop, ← HNN.out]; exact Nat.le_refl _)] at hRw
        have qc := Tryz.bytes_Cut_all (some (a.add k)) (some ⟨w2.heap.size, 0, none⟩) (n - k) (c - k) 2 2 (nums (t.drop k)) (nums [47, 10]) mx W3 (by rw [nums_len, List.length_drop, ← HNN.out]) rfl (nums_range _) (nums_range _) (bytesIn_of hRw (by rw [List.length_drop, ← HNN.out])) hsep (fun h => by cases h) (by omega) (by omega) (by decide) hmx
        rw [bytesOf_nums, bytesOf_nums] at qc
        have hroom := Lib.index_room (t.drop k) [47, 10]
        rw [List.length_drop, ← HNN.out] at hroom
        generalize Lib.index (t.drop k) [47, 10] = ix at qc HN2 hroom
        by_cases hix : 0 ≤ ix
        · obtain ⟨iN, rfl⟩ : ∃ i : Nat, ix = i := ⟨ix.toNat, by omega⟩
          have hroom := hroom hix
          have hcv1 : Lib.cutV (some (a.add k)) (n - k) (c - k) 2 (iN : Int) = .tuple #[.slice (some (a.add k)) iN (c - k), Lib.fromV (some (a.add k)) (n - k) (c - k) (iN + 2), .bool true] := by
            unfold Lib.cutV; rw [if_pos hix]; rfl
          rw [hcv1] at qc
          have hR4 := hRk iN (c - k) (by simp only [List.length_cons, List.length_nil] at hroom; omega)
          have hst : ∀ q, (convert 33 9 (.slice (some (a.add k)) iN (c - k))).run Tryz.prog (W3.drewN q) = .ok (.string (mk ((t.drop k).take iN))) (W3.drewN q) := fun q => rds_str (hR4.below (below_drewn _))
          rw [if_pos hix] at HN2
          generalize Lib.fromV (some (a.add k)) (n - k) (c - k) (iN + 2) = fv at qc
          clear hroom hcv1 hmx hsep HT hk hk' hnc hnn hR hR3 hRk hRw hR4 HNN
          go_wp2_with fail
          rw [← HW3.out]
          refine qc.mono ?_
          rintro r w4 ⟨rfl, q, rfl⟩
          have hst := hst q
          clear qc
          go_wp2_with fail
          go_ret2
          refine ⟨hB3.trans (below_drewn _), ?_⟩
          unfold NmR
          rw [HN2.out]
          rfl
        · have hcv1 : Lib.cutV (some (a.add k)) (n - k) (c - k) 2 ix = .tuple #[.slice (some (a.add k)) (n - k) (c - k), .slice none 0 0, .bool false] := by
            unfold Lib.cutV; rw [if_neg hix]
          rw [hcv1] at qc
          have hst : ∀ q, (convert 33 9 (.slice (some (a.add k)) (n - k) (c - k))).run Tryz.prog (W3.drewN q) = .ok (.string (mk (t.drop k))) (W3.drewN q) := fun q => rds_str (hRw.below (below_drewn _))
          rw [if_neg hix] at HN2
          clear hroom hcv1 hmx hsep HT hk hk' hnc hnn hR hR3 hRk hRw HNN
          go_wp2_with fail
          rw [← HW3.out]
          refine qc.mono ?_
          rintro r w4 ⟨rfl, q, rfl⟩
          have hst := hst q
          clear qc
          go_wp2_with fail
          go_ret2
          refine ⟨hB3.trans (below_drewn _), ?_⟩
          unfold NmR
          rw [HN2.out]
          exact ⟨_, rfl⟩
    · have g1 : (n : Int) < (k : Int) := by omega
      go_wp2_with fail
      go_ret2
      refine ⟨HB.out, ?_⟩
      unfold NmR
      rw [(HNM.out.2 k HV.out).1 (by rw [← HNN.out]; exact hk)]
      exact ⟨_, rfl⟩
  · have HV := hide' hv
    have HB := hide' (hbW.trans (hb2.mono hbW.size))
    clear hv hb2 qv q1
    go_wp2_with fail
    go_ret2
    refine ⟨HB.out, ?_⟩
    unfold NmR
    rw [HNM.out.1 HV.out]
    exact ⟨_, rfl⟩
end Go.Proofs.YtbfchadcpokjoaaGreatDoor.Arc
namespace Go.Proofs.YtbfchadcpokjoaaGreatDoor.Arc
open Go.RowKit Go.Maps Go.Shelf
set_option maxRecDepth 100000

theorem pname_any (c0 c1 c2 c3 c4 c5 : Bs) (tv : Value) (t : Bs) (w : World) (da : Option Addr) (dn dc : Nat) (hl : c0.length ≤ 16) (hE : EvS w) (h3 : 9 < w.heap.size) (hnn : t.length ≤ 100000) (hT : Tbs w tv t) (hM : Mx w) :
    Calls Tryz.prog 224 #[pcv c0 c1 c2 c3 c4 c5 (.slice da dn dc), tv] w fun r w' => Below w.heap.size w w' ∧ NmR c0 t r := by
  cases hp : Lib.hasPrefix c0 [47] with
  | false => exact name_sh c0 c1 c2 c3 c4 c5 tv t w da dn dc hl hp
  | true =>
    rcases hT with ⟨rfl, rfl⟩ | ⟨a, n, cap, rfl, hn, hc, hr⟩
    · exact name_lg c0 c1 c2 c3 c4 c5 none 0 0 [] w da dn dc hl hp hE h3 rfl (by omega) (.inl ⟨rfl, rfl⟩) (Nat.le_refl _) hM
    · exact name_lg c0 c1 c2 c3 c4 c5 (some a) n cap t w da dn dc hl hp hE h3 hn (by omega) (.inr ⟨a, n, cap, rfl, hn, hc, hr⟩) hc hM
/-- a member's three ends -/
def MbR (c0 c1 t x : Bs) (B : Nat) (w' : World) (r : Ending) : Prop := match nameP c0 t, valP c1 with
  | some nm, some v => ∃ dv, r = .returned (.tuple #[.agg #[.string (mk nm), .int .i64 (v : Nat), dv], .bool true]) ∧ Dat w' dv x ∧ OwnB B dv
  | _, _ => r = .returned (.tuple #[.agg #[.string ⟨#[]⟩, .int .i64 0, .slice none 0 0], .bool false])
theorem mb_none1 {c0 c1 t x : Bs} {B : Nat} {w' : World} {r : Ending} (h : nameP c0 t = none) (hr : r = .returned (.tuple #[.agg #[.string ⟨#[]⟩, .int .i64 0, .slice none 0 0], .bool false])) : MbR c0 c1 t x B w' r := by
  unfold MbR; rw [h]; exact hr
theorem mb_none2 {c0 c1 t x : Bs} {B : Nat} {w' : World} {r : Ending} (h : valP c1 = none) (hr : r = .returned (.tuple #[.agg #[.string ⟨#[]⟩, .int .i64 0, .slice none 0 0], .bool false])) : MbR c0 c1 t x B w' r := by
  unfold MbR; rw [h]
  cases nameP c0 t <;> exact hr
theorem mb_some {c0 c1 t x nm : Bs} {v B : Nat} {w' : World} {r : Ending} (h : nameP c0 t = some nm) (h2 : valP c1 = some v) (hr : ∃ dv, r = .returned (.tuple #[.agg #[.string (mk nm), .int .i64 (v : Nat), dv], .bool true]) ∧ Dat w' dv x ∧ OwnB B dv) : MbR c0 c1 t x B w' r := by
  unfold MbR; rw [h, h2]; exact hr
/-- a member's variable, written over -/
theorem three_set {W : World} {P : Nat} {a b c : Value} (h : W.heap[P]? = some (.cells #[a, b, c] 185 (0, 0))) (x y z : Value) : (((W.setCell ⟨P, 0, none⟩ x).setCell ⟨P, 1, none⟩ y).setCell ⟨P, 2, none⟩ z).heap[P]? = some (.cells #[x, y, z] 185 (0, 0)) := by
  have one : ∀ (W : World) (cs : Array Value) (k : Nat) (v : Value), W.heap[P]? = some (.cells cs 185 (0, 0)) → (W.setCell ⟨P, k, none⟩ v).heap[P]? = some (.cells (cs.setIfInBounds k v) 185 (0, 0)) := by
    intro W cs k v h
    have hlt := lt_of_block h
    have h' : W.heap[P] = .cells cs 185 (0, 0) := by simpa [Array.getElem?_eq_getElem hlt] using h
    show (W.heap.modify P _)[P]? = _
    rw [Array.getElem?_eq_getElem (by simpa using hlt), Array.getElem_modify_self, h']
    rfl
  have h1 := one W _ 0 x h
  have h2 := one _ _ 1 y h1
  have h3 := one _ _ 2 z h2
  simpa using h3
theorem below_three {w W : World} {P : Nat} (h : Below w.heap.size w W) (hP : w.heap.size ≤ P) (x y z : Value) : Below w.heap.size w (((W.setCell ⟨P, 0, none⟩ x).setCell ⟨P, 1, none⟩ y).setCell ⟨P, 2, none⟩ z) :=
  below_one (below_one (below_one h hP 0 x) hP 1 y) hP 2 z
theorem three_other {W : World} {P g : Nat} (hg : g ≠ P) (x y z : Value) : (((W.setCell ⟨P, 0, none⟩ x).setCell ⟨P, 1, none⟩ y).setCell ⟨P, 2, none⟩ z).heap[g]? = W.heap[g]? := by
  have one : ∀ (W : World) (k : Nat) (v : Value), (W.setCell ⟨P, k, none⟩ v).heap[g]? = W.heap[g]? := by
    intro W k v
    show (W.heap.modify P _)[g]? = _
    rw [Array.getElem?_modify]
    rw [if_neg (fun e => hg e.symm)]
  rw [one, one, one]
theorem cutl (s p : Bs) : (Lib.cut s p).1.length ≤ s.length := by
  unfold Lib.cut
  split
  · exact List.length_take_le' _ _
  · exact Nat.le_refl _
theorem nameP_len {c t nm : Bs} (h : nameP c t = some nm) : nm.length ≤ c.length + t.length := by
  unfold nameP at h
  split at h
  · cases hv : valP (c.drop 1) with
    | none => rw [hv] at h; cases h
    | some k =>
      rw [hv] at h
      dsimp only at h
      split at h
      · split at h
        · have e := Option.some.inj h
          subst e
          have := cutl (t.drop k) [47, 10]
          have := List.length_drop (i := k) (l := t)
          omega
        · cases h
      · cases h
  · split at h
    · have e := Option.some.inj h
      subst e
      have := List.length_take_le (c.length - 1) c
      omega
    · cases h
set_option maxRecDepth 100000 in
set_option maxHeartbeats 2000000 in
theorem member_any (c0 c1 c2 c3 c4 c5 : Bs) (dv tv : Value) (x t : Bs) (w : World) (hd : Bsl w dv x) (hl : c0.length ≤ 16) (hl1 : c1.length ≤ 16) (hE : EvS w) (h3 : 9 < w.heap.size) (hnn : t.length ≤ 100000) (hxn : x.length ≤ 100000) (hT : Tbs w tv t) (hM : Mx w) :
    Calls Tryz.prog 206 #[pcv c0 c1 c2 c3 c4 c5 dv, tv] w fun r w' => Below w.heap.size w w' ∧ MbR c0 c1 t x w.heap.size w' r := by
  obtain ⟨da, dn, dc, rfl, hdn, hdc, hdr⟩ := hd
  have HDN := hide' hdn
  clear hdn
  obtain ⟨W1, hW1⟩ : ∃ W, W = (w.alloc (.cells (pcCells c0 c1 c2 c3 c4 c5 (.slice (some da) dn dc)) 248)).alloc (.cells #[.string ⟨#[]⟩, .int .i64 0, .slice none 0 0] 185) := ⟨_, rfl⟩
  have hb1 : Below w.heap.size w W1 := by rw [hW1]; exact ((Below.refl _ _).alloc (Nat.le_refl _) _).alloc (by simp) _
  have hz1 : W1.heap.size = w.heap.size + 2 := by rw [hW1]; simp
  have p1 : W1.heap[w.heap.size]? = some (.cells (pcCells c0 c1 c2 c3 c4 c5 (.slice (some da) dn dc)) 248 (0, 0)) := by
    rw [hW1]; exact (Lib.alloc_old _ _ _ (by simp)).trans (heap_alloc_new w _)
  have p2 : W1.heap[w.heap.size + 1]? = some (.cells #[.string ⟨#[]⟩, .int .i64 0, .slice none 0 0] 185 (0, 0)) := by
    rw [hW1]
    have := heap_alloc_new (w.alloc (.cells (pcCells c0 c1 c2 c3 c4 c5 (.slice (some da) dn dc)) 248)) (.cells #[.string ⟨#[]⟩, .int .i64 0, .slice none 0 0] 185)
    simpa using this
  have hE1 := hE.below hb1 h3
  have hM1 := hM.below hb1 (by omega)
  have hT1 := hT.below hb1
  have qn := pname_any c0 c1 c2 c3 c4 c5 tv t W1 (some da) dn dc hl hE1 (by omega) hnn hT1 hM1
  have HW1 := hide' hW1
  have H1 := hide' (And.intro hb1 (And.intro p1 (And.intro p2 (And.intro hE1 hdr))))
  clear hW1 hb1 p1 p2 hE1 hM1 hT1 hE hM hT hdr
  go_enter Tryz.func206, Tryz.ntmps206
  go_wp2_with fail
  rw [← HW1.out]
  refine qn.mono ?_
  rintro r w2 ⟨hb2, hnm⟩
  clear qn
  unfold NmR at hnm
  cases hN : nameP c0 t with
  | none =>
    rw [hN] at hnm
    obtain ⟨s, rfl⟩ := hnm
    have HN := hide' hN
    clear hN
    have q2 := (hb2.block w.heap.size (by omega)).trans H1.out.2.1
    have q3 := (hb2.block (w.heap.size + 1) (by omega)).trans H1.out.2.2.1
    have k1 : w2.cell? ⟨w.heap.size, 1, none⟩ = some (.string (mk c1)) := by rw [Lib.cell_of_heap q2]; rfl
    have hE2 := H1.out.2.2.2.1.below hb2 (by omega)
    have hs2 := hb2.size
    have qv := value_any (mk c1) w2 (by rw [mk_size]; exact hl1) hE2 (by omega)
    rw [tl_mk c1] at qv
    go_wp2_with fail
    refine qv.mono ?_
    rintro r w3 ⟨hb3, hv⟩
    have hs3 := hb3.size
    have r2 := (hb3.block w.heap.size (by omega)).trans q2
    have r3 := (hb3.block (w.heap.size + 1) (by omega)).trans q3
    have HP2 := hide' r3
    have HB3 := hide' ((H1.out.1.trans (hb2.mono (by omega))).trans (hb3.mono (by omega)))
    have m0 : w3.cell? ⟨w.heap.size + 1, 0, none⟩ = some (.string ⟨#[]⟩) := by rw [Lib.cell_of_heap r3]; rfl
    have m1 : w3.cell? ⟨w.heap.size + 1, 1, none⟩ = some (.int .i64 0) := by rw [Lib.cell_of_heap r3]; rfl
    have m2 : w3.cell? ⟨w.heap.size + 1, 2, none⟩ = some (.slice none 0 0) := by rw [Lib.cell_of_heap r3]; rfl
    have z0 := Lib.frozen_of_heap r3 0
    have z1 := Lib.frozen_of_heap r3 1
    have z2 := Lib.frozen_of_heap r3 2
    have d6 : w3.cell? ⟨w.heap.size, 6, none⟩ = some (.slice (some da) dn dc) := by rw [Lib.cell_of_heap r2]; rfl
    clear qv q2 q3 r3 k1 hE2
    rcases hv with ⟨v, hv, rfl⟩ | ⟨hv, rfl⟩
    · have HV := hide' hv
      clear hv
      go_wp2_with fail
      have hX := three_set HP2.out (.string ⟨#[]⟩) (.int .i64 0) (.slice none 0 0)
      have hBX := below_three (P := w.heap.size + 1) HB3.out (by omega) (.string ⟨#[]⟩) (.int .i64 0) (.slice none 0 0)
      revert hX hBX
      generalize (((w3.setCell ⟨w.heap.size + 1, 0, none⟩ (.string ⟨#[]⟩)).setCell ⟨w.heap.size + 1, 1, none⟩ (.int .i64 0)).setCell ⟨w.heap.size + 1, 2, none⟩ (.slice none 0 0)) = X
      intro hX hBX
      have x0 : X.cell? ⟨w.heap.size + 1, 0, none⟩ = some (.string ⟨#[]⟩) := by rw [Lib.cell_of_heap hX]; rfl
      have x1 : X.cell? ⟨w.heap.size + 1, 1, none⟩ = some (.int .i64 0) := by rw [Lib.cell_of_heap hX]; rfl
      have x2 : X.cell? ⟨w.heap.size + 1, 2, none⟩ = some (.slice none 0 0) := by rw [Lib.cell_of_heap hX]; rfl
      refine bodyPost_ret (by simp [results, Tryz.results206, go_sem, x0, x1, x2]; rfl) rfl ?_
      exact ⟨hBX, mb_none1 HN.out rfl⟩
    · have HV := hide' hv
      clear hv
      go_wp2_with fail
      have hX := three_set HP2.out (.string ⟨#[]⟩) (.int .i64 0) (.slice none 0 0)
      have hBX := below_three (P := w.heap.size + 1) HB3.out (by omega) (.string ⟨#[]⟩) (.int .i64 0) (.slice none 0 0)
      revert hX hBX
      generalize (((w3.setCell ⟨w.heap.size + 1, 0, none⟩ (.string ⟨#[]⟩)).setCell ⟨w.heap.size + 1, 1, none⟩ (.int .i64 0)).setCell ⟨w.heap.size + 1, 2, none⟩ (.slice none 0 0)) = X
      intro hX hBX
      have x0 : X.cell? ⟨w.heap.size + 1, 0, none⟩ = some (.string ⟨#[]⟩) := by rw [Lib.cell_of_heap hX]; rfl
      have x1 : X.cell? ⟨w.heap.size + 1, 1, none⟩ = some (.int .i64 0) := by rw [Lib.cell_of_heap hX]; rfl
      have x2 : X.cell? ⟨w.heap.size + 1, 2, none⟩ = some (.slice none 0 0) := by rw [Lib.cell_of_heap hX]; rfl
      refine bodyPost_ret (by simp [results, Tryz.results206, go_sem, x0, x1, x2]; rfl) rfl ?_
      exact ⟨hBX, mb_none1 HN.out rfl⟩
  | some nm =>
    rw [hN] at hnm
    subst hnm
    have HN := hide' hN
    clear hN
    have q2 := (hb2.block w.heap.size (by omega)).trans H1.out.2.1
    have q3 := (hb2.block (w.heap.size + 1) (by omega)).trans H1.out.2.2.1
    have k1 : w2.cell? ⟨w.heap.size, 1, none⟩ = some (.string (mk c1)) := by rw [Lib.cell_of_heap q2]; rfl
    have hE2 := H1.out.2.2.2.1.below hb2 (by omega)
    have hs2 := hb2.size
    have qv := value_any (mk c1) w2 (by rw [mk_size]; exact hl1) hE2 (by omega)
    rw [tl_mk c1] at qv
    go_wp2_with fail
    refine qv.mono ?_
    rintro r w3 ⟨hb3, hv⟩
    have hs3 := hb3.size
    have r2 := (hb3.block w.heap.size (by omega)).trans q2
    have r3 := (hb3.block (w.heap.size + 1) (by omega)).trans q3
    have HP2 := hide' r3
    have HB3 := hide' ((H1.out.1.trans (hb2.mono (by omega))).trans (hb3.mono (by omega)))
    have m0 : w3.cell? ⟨w.heap.size + 1, 0, none⟩ = some (.string ⟨#[]⟩) := by rw [Lib.cell_of_heap r3]; rfl
    have m1 : w3.cell? ⟨w.heap.size + 1, 1, none⟩ = some (.int .i64 0) := by rw [Lib.cell_of_heap r3]; rfl
    have m2 : w3.cell? ⟨w.heap.size + 1, 2, none⟩ = some (.slice none 0 0) := by rw [Lib.cell_of_heap r3]; rfl
    have z0 := Lib.frozen_of_heap r3 0
    have z1 := Lib.frozen_of_heap r3 1
    have z2 := Lib.frozen_of_heap r3 2
    have d6 : w3.cell? ⟨w.heap.size, 6, none⟩ = some (.slice (some da) dn dc) := by rw [Lib.cell_of_heap r2]; rfl
    clear qv q2 q3 r3 k1 hE2
    rcases hv with ⟨v, hv, rfl⟩ | ⟨hv, rfl⟩
    · have HV := hide' hv
      clear hv
      have hdr3 := H1.out.2.2.2.2.below HB3.out
      have hnl := nameP_len HN.out
      have qo := own_any ⟨nm, (v : Int), .slice (some da) dn dc, x⟩ w3 hdr3 (by simp only; omega) (by simp only; omega)
      dsimp only at qo
      go_wp2_with fail
      refine qo.mono ?_
      rintro r w4 ⟨⟨dv', rfl, hdat, hown⟩, hb4⟩
      dsimp only
      obtain ⟨ea, en, ec, rfl⟩ := hdat.form
      have hs4 := hb4.size
      have r4 := (hb4.block (w.heap.size + 1) (by omega)).trans HP2.out
      have HP4 := hide' r4
      have HB4 := hide' (HB3.out.trans (hb4.mono (by omega)))
      have HD4 := hide' (And.intro hdat hown)
      clear m0 m1 m2 z0 z1 z2
      have m0 : w4.cell? ⟨w.heap.size + 1, 0, none⟩ = some (.string ⟨#[]⟩) := by rw [Lib.cell_of_heap r4]; rfl
      have m1 : w4.cell? ⟨w.heap.size + 1, 1, none⟩ = some (.int .i64 0) := by rw [Lib.cell_of_heap r4]; rfl
      have m2 : w4.cell? ⟨w.heap.size + 1, 2, none⟩ = some (.slice none 0 0) := by rw [Lib.cell_of_heap r4]; rfl
      have z0 := Lib.frozen_of_heap r4 0
      have z1 := Lib.frozen_of_heap r4 1
      have z2 := Lib.frozen_of_heap r4 2
      clear qo r4 hdat hown hdr3 r2 d6
      go_wp2_with fail
      have hX := three_set HP4.out (.string (mk nm)) (.int .i64 (v : Int)) (.slice ea en ec)
      have hBX := below_three (P := w.heap.size + 1) HB4.out (by omega) (.string (mk nm)) (.int .i64 (v : Int)) (.slice ea en ec)
      have hO : ∀ g, g ≠ w.heap.size + 1 → (((w4.setCell ⟨w.heap.size + 1, 0, none⟩ (.string (mk nm))).setCell ⟨w.heap.size + 1, 1, none⟩ (.int .i64 (v : Int))).setCell ⟨w.heap.size + 1, 2, none⟩ (.slice ea en ec)).heap[g]? = w4.heap[g]? := fun g hg => three_other hg _ _ _
      revert hX hBX hO
      generalize (((w4.setCell ⟨w.heap.size + 1, 0, none⟩ (.string (mk nm))).setCell ⟨w.heap.size + 1, 1, none⟩ (.int .i64 (v : Int))).setCell ⟨w.heap.size + 1, 2, none⟩ (.slice ea en ec)) = X
      intro hX hBX hO
      have x0 : X.cell? ⟨w.heap.size + 1, 0, none⟩ = some (.string (mk nm)) := by rw [Lib.cell_of_heap hX]; rfl
      have x1 : X.cell? ⟨w.heap.size + 1, 1, none⟩ = some (.int .i64 (v : Int)) := by rw [Lib.cell_of_heap hX]; rfl
      have x2 : X.cell? ⟨w.heap.size + 1, 2, none⟩ = some (.slice ea en ec) := by rw [Lib.cell_of_heap hX]; rfl
      refine bodyPost_ret (by simp [results, Tryz.results206, go_sem, x0, x1, x2]; rfl) rfl ?_
      refine ⟨hBX, mb_some HN.out HV.out ⟨_, rfl, HD4.out.1.kept fun g hg => hO g (by have := HD4.out.2 g hg; omega), fun g hg => by have := HD4.out.2 g hg; omega⟩⟩
    · have HV := hide' hv
      clear hv
      go_wp2_with fail
      have hX := three_set HP2.out (.string ⟨#[]⟩) (.int .i64 0) (.slice none 0 0)
      have hBX := below_three (P := w.heap.size + 1) HB3.out (by omega) (.string ⟨#[]⟩) (.int .i64 0) (.slice none 0 0)
      revert hX hBX
      generalize (((w3.setCell ⟨w.heap.size + 1, 0, none⟩ (.string ⟨#[]⟩)).setCell ⟨w.heap.size + 1, 1, none⟩ (.int .i64 0)).setCell ⟨w.heap.size + 1, 2, none⟩ (.slice none 0 0)) = X
      intro hX hBX
      have x0 : X.cell? ⟨w.heap.size + 1, 0, none⟩ = some (.string ⟨#[]⟩) := by rw [Lib.cell_of_heap hX]; rfl
      have x1 : X.cell? ⟨w.heap.size + 1, 1, none⟩ = some (.int .i64 0) := by rw [Lib.cell_of_heap hX]; rfl
      have x2 : X.cell? ⟨w.heap.size + 1, 2, none⟩ = some (.slice none 0 0) := by rw [Lib.cell_of_heap hX]; rfl
      refine bodyPost_ret (by simp [results, Tryz.results206, go_sem, x0, x1, x2]; rfl) rfl ?_
      exact ⟨hBX, mb_none2 HV.out rfl⟩
end Go.Proofs.YtbfchadcpokjoaaGreatDoor.Arc
