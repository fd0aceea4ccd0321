/- A strings.Builder whose row lies apart from its own block: what its writers leave alone. -/
import Derived.Test.YteleakbefebabaaDoorBuild
import Derived.Test.YteleakbefebabaaDoorJn
namespace Go.Proofs.YteleakbefebabaaDoor
open Go.RowKit Go.Shelf

/-- the builder at block b holds l; its row lies from R on -/
def BR (R b : Nat) (l : List UInt8) (w : World) : Prop := b < R ∧ ∃ p v, (p = .pointer none ∨ p = .pointer (some ⟨b, 0, none⟩)) ∧ w.heap[b]? = some (.cells #[p, v] 41 (0, 0)) ∧ w.ownsRow R 5 1 v l.length (Lib.byteCells l)
theorem row_not {W : World} {base : Nat} {e : TypeId} {m k : Nat} {v : Value} {xs : List Value} (h : W.ownsRow base e m v k xs) {B : Nat} (hB : B < base) : v.ownBlock ≠ some B := by
  rcases h.2 with ⟨rfl, _⟩ | ⟨g, cap, cur, rfl, hg, _⟩
  · simp [Value.ownBlock]
  · simp [Value.ownBlock]; omega
theorem row_mono {W : World} {base base' : Nat} {e : TypeId} {m k : Nat} {v : Value} {xs : List Value} (h : W.ownsRow base e m v k xs) (hb : base' ≤ base) : W.ownsRow base' e m v k xs := by
  refine ⟨h.1, ?_⟩
  rcases h.2 with h0 | ⟨g, cap, cur, h1, h2, h3⟩
  · exact .inl h0
  · exact .inr ⟨g, cap, cur, h1, Nat.le_trans hb h2, h3⟩
theorem BR.is {R b : Nat} {l : List UInt8} {w : World} (h : BR R b l w) : Bld b b l w := by
  obtain ⟨hR, p, v, hp, hb, hr⟩ := h
  have hr' : w.ownsRow b 5 1 v (Lib.byteCells l).length (Lib.byteCells l) := by rw [Lib.byteCells_length]; exact row_mono hr (by omega)
  rcases hp with rfl | rfl
  · exact .inl ⟨Nat.le_refl _, v, hb, hr', row_not hr hR⟩
  · exact .inr ⟨Nat.le_refl _, v, hb, hr', row_not hr hR⟩
theorem BR.lt {R b : Nat} {l : List UInt8} {w : World} (h : BR R b l w) : b < w.heap.size := by
  obtain ⟨_, p, v, _, hb, _⟩ := h
  exact (Array.getElem?_eq_some_iff.1 hb).1
theorem BR.kept {R b : Nat} {l : List UInt8} {w w' : World} {row : Option Nat} (h : BR R b l w) (hg : w.grownBy w' row) (h1 : row ≠ some b) (h2 : ∀ g, row = some g → g < R ∨ ∃ o : Obj, w.heap[g]? = some o ∧ o.isCells = false) : BR R b l w' := by
  obtain ⟨hR, p, v, hp, hb, hr⟩ := h
  refine ⟨hR, p, v, hp, (hg.block b (Array.getElem?_eq_some_iff.1 hb).1 (fun e => h1 e.symm)).trans hb, hr.kept hg ?_⟩
  rcases hr.2 with ⟨rfl, _⟩ | ⟨g, cap, cur, rfl, hgR, hgb, _⟩
  · exact .inl rfl
  · refine .inr fun e => ?_
    rcases h2 g (by simpa [Value.ownBlock] using e.symm) with h3 | ⟨o, ho, hc⟩
    · omega
    · rw [hgb] at ho; cases ho; cases hc
theorem BR.own (R b : Nat) {β : Type} (f : β → List UInt8) (B : Nat) : OwnFrom B (fun s W => BR R b (f s) W) := fun s W W' row hs hg hr => by
  refine hs.kept hg (fun e => ?_) (fun g e => .inr (hr g e).2)
  obtain ⟨_, p, v, _, hb, _⟩ := hs
  obtain ⟨_, o, ho, hc⟩ := hr b e
  rw [hb] at ho; cases ho; cases hc
theorem BR.new (w : World) (R : Nat) (hR : w.heap.size < R) : BR R w.heap.size [] (w.alloc (.cells #[.pointer none, .slice none 0 0] 41)) :=
  ⟨hR, _, _, .inl rfl, World.alloc_heap_new w _, World.ownsRow_nil _ _ _ _⟩

/-- what a writer leaves alone -/
structure Wr (R b : Nat) (w w' : World) : Prop where
  below : Below b w w'
  apart : ∀ k, k < R → k ≠ b → w'.heap[k]? = w.heap[k]?
  others : KeepsOthers w w'
theorem Wr.kf {R b : Nat} {w w' : World} (h : Wr R b w w') {A : Nat → Prop} (hA : A b) : Kf A R w w' := ⟨h.below.size, fun k hk hk' => h.apart k hk (fun e => hk' (e ▸ hA))⟩
theorem Wr.box {R b : Nat} {w w' : World} (h : Wr R b w w') {B : Nat} {t : TypeId} {v : Value} (hv : Boxed w B t v) (h1 : B < R) (h2 : B ≠ b) : Boxed w' B t v := (h.apart B h1 h2).trans hv

theorem Wr.trans {R b : Nat} {w w1 w2 : World} (h : Wr R b w w1) (k : Wr R b w1 w2) : Wr R b w w2 := ⟨h.below.trans k.below, fun i hi hb => (k.apart i hi hb).trans (h.apart i hi hb), h.others.trans k.others⟩

theorem check_br (R b : Nat) (l : List UInt8) (w : World) (h : BR R b l w) :
    Calls Tryd.prog 27 #[.pointer (some ⟨b, 0, none⟩)] w fun e w' => e = .returned (.tuple #[]) ∧ (∃ v, w'.heap[b]? = some (.cells #[.pointer (some ⟨b, 0, none⟩), v] 41 (0, 0)) ∧ w'.ownsRow R 5 1 v l.length (Lib.byteCells l)) ∧ Wr R b w w' := by
  obtain ⟨hR, p, v, hp, hb, hr⟩ := h
  rcases hp with rfl | rfl
  · have hA : Lib.BuilderAt 41 5 b b (.pointer none) (Lib.byteCells l) w := ⟨Nat.le_refl _, v, hb, by rw [Lib.byteCells_length]; exact row_mono hr (by omega), row_not hr hR⟩
    refine (check_fresh b w hA.cell0 hA.shape hA.frozen0).mono ?_
    rintro e w' ⟨rfl, rfl⟩
    refine ⟨rfl, ⟨v, ?_, hr.kept (grownBy_setCell' w b _) (.inr (row_not hr hR))⟩, (Below.refl b w).setCell (p := ⟨b, 0, none⟩) (Nat.le_refl _) _, fun k _ hk => Below.heap_setCell _ _ _ _ (by simpa using hk), KeepsOthers.setCell _ _ _⟩
    simp [World.setCell, Array.getElem?_modify, hb]
  · refine (check_used b w (by simp [World.cell?, hb])).mono ?_
    rintro e w' ⟨rfl, rfl⟩
    exact ⟨rfl, ⟨v, hb, hr⟩, Below.refl _ _, fun _ _ _ => rfl, KeepsOthers.refl _⟩

/-- behind the append and the store -/
theorem wr_end {R b : Nat} {l l' : List UInt8} {w w1 w2 : World} {v v' : Value} (hR : b < R) (hW1 : Wr R b w w1) (hRw : R ≤ w1.heap.size) (hbk : w1.heap[b]? = some (.cells #[.pointer (some ⟨b, 0, none⟩), v] 41 (0, 0)))
    (hown : w1.ownsRow R 5 1 v l.length (Lib.byteCells l)) (hown' : w2.ownsRow R 5 1 v' l'.length (Lib.byteCells l')) (hgrow : w1.grownBy w2 v.ownBlock) :
    BR R b l' (w2.setCell ⟨b, 1, none⟩ v') ∧ Wr R b w (w2.setCell ⟨b, 1, none⟩ v') := by
  have hlt : b < w1.heap.size := (Array.getElem?_eq_some_iff.1 hbk).1
  have hb2 : w2.heap[b]? = some (.cells #[.pointer (some ⟨b, 0, none⟩), v] 41 (0, 0)) := (hgrow.block b hlt (fun e => row_not hown hR e.symm)).trans hbk
  have hg3 : w2.grownBy (w2.setCell ⟨b, 1, none⟩ v') (some b) := ⟨rfl, rfl, rfl, by simp [World.setCell], fun k _ hk => Below.heap_setCell _ _ _ _ (fun e => hk (by simp [e]))⟩
  refine ⟨⟨hR, _, v', .inr rfl, ?_, hown'.kept hg3 (.inr (row_not hown' hR))⟩, ?_⟩
  · simp [World.setCell, Array.getElem?_modify, hb2]
  · have hbl : Below b w w2 := hW1.below.grown hgrow (by omega) fun k hk => by
      rcases hown.2 with ⟨rfl, _⟩ | ⟨g, cap, cur, rfl, hg, _⟩
      · simp [Value.ownBlock] at hk
      · obtain rfl : g = k := by simpa [Value.ownBlock] using hk
        omega
    refine ⟨hbl.setCell (p := ⟨b, 1, none⟩) (Nat.le_refl _) _, fun k hk hkb => ?_, ?_⟩
    · exact (Below.heap_setCell _ _ _ _ (by simpa using hkb)).trans ((hgrow.block k (by omega) (fun e => row_not hown hk e.symm)).trans (hW1.apart k hk hkb))
    · refine (hW1.others.trans (KeepsOthers.of_grownBy hgrow fun j o ej hj => ?_)).trans (KeepsOthers.setCell _ _ _)
      rcases hown.2 with ⟨rfl, _⟩ | ⟨g, cap, cur, rfl, _, hgb, _⟩
      · simp [Value.ownBlock] at ej
      · obtain rfl : g = j := by simpa [Value.ownBlock] using ej
        rw [hgb] at hj; cases hj; rfl

set_option maxHeartbeats 2000000 in
set_option maxRecDepth 100000 in
theorem wstr_any (R b : Nat) (l : List UInt8) (s : ByteArray) (w : World) (h : BR R b l w) (hlen : l.length + s.size ≤ 140737488355328) (hRw : R ≤ w.heap.size) :
    Calls Tryd.prog 17 #[.pointer (some ⟨b, 0, none⟩), .string s] w fun e w' => e = .returned (.tuple #[.int .i64 s.size, .nilIface]) ∧ BR R b (l ++ tl s) w' ∧ Wr R b w w' := by
  obtain ⟨i0, hi, hz0, hz1, hz2⟩ := info_parts info5
  have hR := h.1
  go_enter Tryd.func17, Tryd.ntmps17
  go_wp2_with (go_at_call 27; refine (check_br R b l _ h).mono ?_)
  rintro e w1 ⟨rfl, ⟨v, hbk, hown⟩, hW1⟩
  have hsz := hW1.below.size
  have hl : (Lib.byteCells l).length = l.length := Lib.byteCells_length l
  have c0 : w1.cell? ⟨b, 0, none⟩ = some (.pointer (some ⟨b, 0, none⟩)) := by rw [Lib.cell_of_heap hbk]; rfl
  have c1 : w1.cell? ⟨b, 1, none⟩ = some v := by rw [Lib.cell_of_heap hbk]; rfl
  go_wp2_with (at_builtin; refine Lib.wpList_append_own_string _ rfl _ _ 39 9 rfl R 5 i0 Tryd.underlying39 Tryd.underlying9 hi hz0 hz1 hz2 _ _ _ rfl hown s rfl (by unfold maxLen; omega) (by omega) (by omega) ?_)
  intro v' w2 hown' hgrow _
  have e1 : Lib.byteCells (l ++ tl s) = Lib.byteCells l ++ Lib.strCells s := by simp [Lib.byteCells, Lib.strCells, tl]
  have hlt : b < w1.heap.size := (Array.getElem?_eq_some_iff.1 hbk).1
  have hb2 : w2.heap[b]? = some (.cells #[.pointer (some ⟨b, 0, none⟩), v] 41 (0, 0)) := (hgrow.block b hlt (fun e => row_not hown hR e.symm)).trans hbk
  have d0 : w2.cell? ⟨b, 0, none⟩ = some (.pointer (some ⟨b, 0, none⟩)) := by rw [Lib.cell_of_heap hb2]; rfl
  have d1 : w2.cell? ⟨b, 1, none⟩ = some v := by rw [Lib.cell_of_heap hb2]; rfl
  have f1 : w2.frozen? ⟨b, 1, none⟩ = false := Lib.frozen_of_heap hb2 1
  have hfin := wr_end (l := l) (l' := l ++ tl s) hR hW1 (by omega) hbk hown (by rw [e1, List.length_append, tl_len]; exact hown') hgrow
  have HF := hide' hfin
  obtain ⟨ao, n', cap, rfl⟩ : ∃ ao n' cap, v' = .slice ao n' cap := by
    rcases hown'.2 with ⟨hv, _⟩ | ⟨g, cap, cur, hv, _⟩
    · exact ⟨_, _, _, hv⟩
    · exact ⟨_, _, _, hv⟩
  clear hfin
  go_wp2
  go_ret2
  exact ⟨rfl, HF.out.1, HF.out.2⟩

set_option maxHeartbeats 2000000 in
set_option maxRecDepth 100000 in
theorem wbyte_br (R b : Nat) (l : List UInt8) (c : UInt8) (cn : Nat) (hcn : c.toNat = cn) (w : World) (h : BR R b l w) (hlen : l.length + 1 ≤ 140737488355328) (hRw : R ≤ w.heap.size) :
    Calls Tryd.prog 30 #[.pointer (some ⟨b, 0, none⟩), .int .u8 cn] w fun e w' => e = .returned .nilIface ∧ BR R b (l ++ [c]) w' ∧ Wr R b w w' := by
  obtain ⟨i0, hi, hz0, hz1, hz2⟩ := info_parts info5
  have hR := h.1
  go_enter Tryd.func30, Tryd.ntmps30
  go_wp2_with (go_at_call 27; refine (check_br R b l _ h).mono ?_)
  rintro e w1 ⟨rfl, ⟨v, hbk, hown⟩, hW1⟩
  have hsz := hW1.below.size
  have c0 : w1.cell? ⟨b, 0, none⟩ = some (.pointer (some ⟨b, 0, none⟩)) := by rw [Lib.cell_of_heap hbk]; rfl
  have c1 : w1.cell? ⟨b, 1, none⟩ = some v := by rw [Lib.cell_of_heap hbk]; rfl
  go_wp2_with (at_builtin; refine wpList_append_own _ rfl _ _ 39 rfl R 5 i0 (.int .u8 0) 1 1 Tryd.underlying39 hi hz0 hz1 hz2 rfl (by decide) _ _ _ rfl (hown.alloc _) ⟨w1.heap.size, 0, none⟩ 1 1 [.int .u8 cn] rfl rfl (new_cell _ _ _) (by intro u hu; simp at hu; subst hu; rfl) (by unfold maxLen; omega) (by omega) (by simp; omega) ?_)
  intro v' w2 hown' hgrow _
  have e1 : Lib.byteCells (l ++ [c]) = Lib.byteCells l ++ [.int .u8 cn] := by rw [← hcn]; simp [Lib.byteCells]
  have hlt : b < w1.heap.size := (Array.getElem?_eq_some_iff.1 hbk).1
  obtain ⟨wa, hwa⟩ : ∃ wa, wa = w1.alloc (.cells #[.int .u8 cn] 5) := ⟨_, rfl⟩
  rw [← hwa] at hgrow
  have hbka : wa.heap[b]? = some (.cells #[.pointer (some ⟨b, 0, none⟩), v] 41 (0, 0)) := by rw [hwa, Lib.alloc_old w1 _ b hlt]; exact hbk
  have howna : wa.ownsRow R 5 1 v l.length (Lib.byteCells l) := by rw [hwa]; exact hown.alloc _
  have hsza : wa.heap.size = w1.heap.size + 1 := by rw [hwa]; simp
  have hWa : Wr R b w wa := ⟨by rw [hwa]; exact hW1.below.alloc (by omega) _, fun k hk hkb => by rw [hwa, Lib.alloc_old w1 _ k (by omega)]; exact hW1.apart k hk hkb, by rw [hwa]; exact hW1.others.trans (KeepsOthers.alloc _ _)⟩
  have hb2 : w2.heap[b]? = some (.cells #[.pointer (some ⟨b, 0, none⟩), v] 41 (0, 0)) := (hgrow.block b (by omega) (fun e => row_not howna hR e.symm)).trans hbka
  have d0 : w2.cell? ⟨b, 0, none⟩ = some (.pointer (some ⟨b, 0, none⟩)) := by rw [Lib.cell_of_heap hb2]; rfl
  have d1 : w2.cell? ⟨b, 1, none⟩ = some v := by rw [Lib.cell_of_heap hb2]; rfl
  have f1 : w2.frozen? ⟨b, 1, none⟩ = false := Lib.frozen_of_heap hb2 1
  have hfin := wr_end (l := l) (l' := l ++ [c]) hR hWa (by omega) hbka howna (by rw [e1, List.length_append]; exact hown') hgrow
  have HF := hide' hfin
  clear hfin hwa hWa hbka howna hsza
  obtain ⟨g, cap, rfl⟩ := ownsRow_succ hown'
  go_wp2
  go_ret
  exact ⟨rfl, HF.out.1, HF.out.2⟩

theorem others_freeze (w : World) (a : Addr) (n : Nat) : KeepsOthers w (w.freeze a n) := by
  unfold World.freeze
  split
  · exact KeepsOthers.refl _
  · refine ⟨by simp, fun k o hk ho => ?_⟩
    by_cases e : k = a.block
    · subst e
      simp only [Array.getElem?_modify, hk, if_true, Option.map_some]
      cases o <;> first | rfl | (simp [Obj.isCells] at ho)
    · simp only [Array.getElem?_modify, if_neg (Ne.symm e)]
      exact hk
theorem keeps_below {w w' : World} (h : Below w.heap.size w w') : KeepsOthers w w' := ⟨h.size, fun k _ hk _ => (h.block k (Array.getElem?_eq_some_iff.1 hk).1).trans hk⟩
set_option maxHeartbeats 2000000 in
set_option maxRecDepth 100000 in
theorem bstr_some (R b : Nat) (l : List UInt8) (w : World) (h : BR R b l w) (h0 : l ≠ []) :
    Calls Tryd.prog 18 #[.pointer (some ⟨b, 0, none⟩)] w fun e w' => e = .returned (.string (mk l)) ∧ Below R w w' ∧ KeepsOthers w w' := by
  obtain ⟨hR, p, v, _, hbk, hown⟩ := h
  have hl0 : l.length ≠ 0 := by simpa using h0
  obtain ⟨g, cap, cur, rfl, hbg, hg, hnc, hcm, hcs, htake⟩ : ∃ g cap cur, v = .slice (some ⟨g, 0, none⟩) l.length cap ∧ R ≤ g ∧ w.heap[g]? = some (.cells cur 5 (0, 0)) ∧ l.length ≤ cap ∧ cap ≤ maxLen ∧ cur.size = cap * 1 ∧ cur.toList.take (l.length * 1) = Lib.byteCells l := by
    rcases hown.2 with ⟨_, hz⟩ | ⟨g, cap, cur, hv, r⟩
    · exact absurd hz hl0
    · exact ⟨g, cap, cur, hv, r⟩
  have c1 : w.drew.cell? ⟨b, 1, none⟩ = some (.slice (some ⟨g, 0, none⟩) l.length cap) := by
    have : w.drew.heap[b]? = some (.cells #[p, .slice (some ⟨g, 0, none⟩) l.length cap] 41 (0, 0)) := hbk
    rw [Lib.cell_of_heap this]; rfl
  have hSD : (Builtin.unsafeSliceData_ #[39] 53 #[.slice (some ⟨g, 0, none⟩) l.length cap]).run Tryd.prog w.drew = .ok (.pointer (some ⟨g, 0, none⟩)) w.drew :=
    Lib.run_unsafeSliceData_row _ _ _ _ _ _ (by omega)
  have hUS : (Builtin.unsafeString_ #[53, 3] 9 #[.pointer (some ⟨g, 0, none⟩), .int .i64 l.length]).run Tryd.prog w.drew = .ok (.string ⟨l.toArray⟩) (w.drew.freeze ⟨g, 0, none⟩ l.length) := by
    refine Lib.run_unsafeString_row w.drew 53 3 9 5 Tryd.underlying53 Tryd.Builder_Extra_169.cellsByte g cur.size (by have hg' : w.drew.heap[g]? = some (.cells cur 5 (0, 0)) := hg; simp [World.shape?, hg']) l h0 (by omega) (by unfold maxLen at hcm; omega) ?_
    intro j x hx
    exact hown.cells (g := g) rfl j (.int .u8 x.toNat) (by simp [Lib.byteCells, hx])
  have hmx : Tryd.prog.follows .mixedOrders = true := by kernel_rfl
  clear hown htake hg hcs
  go_enter Tryd.func18, Tryd.ntmps18
  go_wp2
  go_region
  all_goals (go_wp2; go_ret; exact ⟨rfl, Lib.below_freeze (Below.drew (Below.refl R w)) (p := ⟨g, 0, none⟩) hbg _, (KeepsOthers.drew w).trans (others_freeze _ _ _)⟩)

theorem bstr_any (R b : Nat) (l : List UInt8) (w : World) (h : BR R b l w) (hRw : R ≤ w.heap.size) :
    Calls Tryd.prog 18 #[.pointer (some ⟨b, 0, none⟩)] w fun e w' => e = .returned (.string (mk l)) ∧ Below R w w' ∧ KeepsOthers w w' := by
  by_cases h0 : l = []
  · subst h0
    obtain ⟨hR, p, v, _, hbk, hown⟩ := h
    have up : ∀ e w', e = Ending.returned (.string ⟨#[]⟩) ∧ Below w.heap.size w w' → e = .returned (.string (mk [])) ∧ Below R w w' ∧ KeepsOthers w w' := fun e w' h => ⟨h.1, h.2.mono hRw, keeps_below h.2⟩
    rcases hown.2 with ⟨rfl, _⟩ | ⟨g, cap, cur, rfl, hg, hgb, _⟩
    · exact (Any.Builder_String_nil Tryd.lays169 Tryd.Builder_Extra_169 w.heap.size b p w hbk).mono up
    · by_cases hc : cap = 0
      · subst hc
        exact (Any.Builder_String_noroom Tryd.lays169 Tryd.Builder_Extra_169 w.heap.size b g p cur w (Nat.le_refl _) hbk hgb).mono up
      · exact (Any.Builder_String_room Tryd.lays169 Tryd.Builder_Extra_169 w.heap.size b g cap p w hc hbk).mono up
  · exact bstr_some R b l w h h0
end Go.Proofs.YteleakbefebabaaDoor
