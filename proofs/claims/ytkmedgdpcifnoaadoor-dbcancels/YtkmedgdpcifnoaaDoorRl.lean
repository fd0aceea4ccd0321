/- Rules in memory: a box of a rule, a row of rules. -/
import Derived.Test.YtkmedgdpcifnoaaDoorLs
namespace Go.Proofs.YtkmedgdpcifnoaaDoor
open Go.RowKit Go.Shelf

def Bx11 (w : World) (b : Nat) (v0 v1 v2 v3 v4 v5 v6 v7 v8 v9 v10 : Value) : Prop := w.heap[b]? = some (.cells #[v0, v1, v2, v3, v4, v5, v6, v7, v8, v9, v10] 43 (0, 0))
section
variable {w : World} {b : Nat} {v0 v1 v2 v3 v4 v5 v6 v7 v8 v9 v10 : Value}
theorem Bx11.c0 (x : Bx11 w b v0 v1 v2 v3 v4 v5 v6 v7 v8 v9 v10) : w.cell? ⟨b, 0, none⟩ = some v0 := by unfold Bx11 at x; rw [Lib.cell_of_heap x]; rfl
theorem Bx11.c1 (x : Bx11 w b v0 v1 v2 v3 v4 v5 v6 v7 v8 v9 v10) : w.cell? ⟨b, 1, none⟩ = some v1 := by unfold Bx11 at x; rw [Lib.cell_of_heap x]; rfl
theorem Bx11.c2 (x : Bx11 w b v0 v1 v2 v3 v4 v5 v6 v7 v8 v9 v10) : w.cell? ⟨b, 2, none⟩ = some v2 := by unfold Bx11 at x; rw [Lib.cell_of_heap x]; rfl
theorem Bx11.c3 (x : Bx11 w b v0 v1 v2 v3 v4 v5 v6 v7 v8 v9 v10) : w.cell? ⟨b, 3, none⟩ = some v3 := by unfold Bx11 at x; rw [Lib.cell_of_heap x]; rfl
theorem Bx11.c4 (x : Bx11 w b v0 v1 v2 v3 v4 v5 v6 v7 v8 v9 v10) : w.cell? ⟨b, 4, none⟩ = some v4 := by unfold Bx11 at x; rw [Lib.cell_of_heap x]; rfl
theorem Bx11.c5 (x : Bx11 w b v0 v1 v2 v3 v4 v5 v6 v7 v8 v9 v10) : w.cell? ⟨b, 5, none⟩ = some v5 := by unfold Bx11 at x; rw [Lib.cell_of_heap x]; rfl
theorem Bx11.c6 (x : Bx11 w b v0 v1 v2 v3 v4 v5 v6 v7 v8 v9 v10) : w.cell? ⟨b, 6, none⟩ = some v6 := by unfold Bx11 at x; rw [Lib.cell_of_heap x]; rfl
theorem Bx11.c7 (x : Bx11 w b v0 v1 v2 v3 v4 v5 v6 v7 v8 v9 v10) : w.cell? ⟨b, 7, none⟩ = some v7 := by unfold Bx11 at x; rw [Lib.cell_of_heap x]; rfl
theorem Bx11.c8 (x : Bx11 w b v0 v1 v2 v3 v4 v5 v6 v7 v8 v9 v10) : w.cell? ⟨b, 8, none⟩ = some v8 := by unfold Bx11 at x; rw [Lib.cell_of_heap x]; rfl
theorem Bx11.c9 (x : Bx11 w b v0 v1 v2 v3 v4 v5 v6 v7 v8 v9 v10) : w.cell? ⟨b, 9, none⟩ = some v9 := by unfold Bx11 at x; rw [Lib.cell_of_heap x]; rfl
theorem Bx11.c10 (x : Bx11 w b v0 v1 v2 v3 v4 v5 v6 v7 v8 v9 v10) : w.cell? ⟨b, 10, none⟩ = some v10 := by unfold Bx11 at x; rw [Lib.cell_of_heap x]; rfl
theorem Bx11.fz (x : Bx11 w b v0 v1 v2 v3 v4 v5 v6 v7 v8 v9 v10) (j : Nat) : w.frozen? ⟨b, j, none⟩ = false := Lib.frozen_of_heap x j
theorem Bx11.lt (x : Bx11 w b v0 v1 v2 v3 v4 v5 v6 v7 v8 v9 v10) : b < w.heap.size := lt_of_block x
theorem Bx11.below {w' : World} (x : Bx11 w b v0 v1 v2 v3 v4 v5 v6 v7 v8 v9 v10) (hb : Below w.heap.size w w') : Bx11 w' b v0 v1 v2 v3 v4 v5 v6 v7 v8 v9 v10 := (hb.block b x.lt).trans x
theorem Bx11.alloc (x : Bx11 w b v0 v1 v2 v3 v4 v5 v6 v7 v8 v9 v10) (o : Obj) : Bx11 (w.alloc o) b v0 v1 v2 v3 v4 v5 v6 v7 v8 v9 v10 := x.below ((Below.refl _ w).alloc (Nat.le_refl _) o)
theorem Bx11.other {A : Nat} (x : Bx11 w b v0 v1 v2 v3 v4 v5 v6 v7 v8 v9 v10) (hne : b ≠ A) (j : Nat) (v : Value) : Bx11 (w.setCell ⟨A, j, none⟩ v) b v0 v1 v2 v3 v4 v5 v6 v7 v8 v9 v10 := (set_other _ _ _ _ hne).trans x
end
abbrev put11 (W : World) (b : Nat) (v0 v1 v2 v3 v4 v5 v6 v7 v8 v9 v10 : Value) : World := ((((((((((W.setCell ⟨b, 0, none⟩ v0).setCell ⟨b, 1, none⟩ v1).setCell ⟨b, 2, none⟩ v2).setCell ⟨b, 3, none⟩ v3).setCell ⟨b, 4, none⟩ v4).setCell ⟨b, 5, none⟩ v5).setCell ⟨b, 6, none⟩ v6).setCell ⟨b, 7, none⟩ v7).setCell ⟨b, 8, none⟩ v8).setCell ⟨b, 9, none⟩ v9).setCell ⟨b, 10, none⟩ v10
theorem Bx11.set {w : World} {b : Nat} {u0 u1 u2 u3 u4 u5 u6 u7 u8 u9 u10 v0 v1 v2 v3 v4 v5 v6 v7 v8 v9 v10 : Value} (x : Bx11 w b u0 u1 u2 u3 u4 u5 u6 u7 u8 u9 u10) : Bx11 (put11 w b v0 v1 v2 v3 v4 v5 v6 v7 v8 v9 v10) b v0 v1 v2 v3 v4 v5 v6 v7 v8 v9 v10 := by
  unfold Bx11 at x
  have h0 := set_block x 0 v0
  have h1 := set_block h0 1 v1
  have h2 := set_block h1 2 v2
  have h3 := set_block h2 3 v3
  have h4 := set_block h3 4 v4
  have h5 := set_block h4 5 v5
  have h6 := set_block h5 6 v6
  have h7 := set_block h6 7 v7
  have h8 := set_block h7 8 v8
  have h9 := set_block h8 9 v9
  have h10 := set_block h9 10 v10
  exact h10.trans (by simp)
theorem put11_below {B : Nat} {w W : World} (h0 : Below B w W) {b : Nat} (hb : B ≤ b) (v0 v1 v2 v3 v4 v5 v6 v7 v8 v9 v10 : Value) : Below B w (put11 W b v0 v1 v2 v3 v4 v5 v6 v7 v8 v9 v10) :=
  ((((((((((h0.setCell hb _).setCell hb _).setCell hb _).setCell hb _).setCell hb _).setCell hb _).setCell hb _).setCell hb _).setCell hb _).setCell hb _).setCell hb _
theorem bx11_at (w : World) (v0 v1 v2 v3 v4 v5 v6 v7 v8 v9 v10 : Value) : Bx11 (w.alloc (.cells #[v0, v1, v2, v3, v4, v5, v6, v7, v8, v9, v10] 43)) w.heap.size v0 v1 v2 v3 v4 v5 v6 v7 v8 v9 v10 := heap_alloc_new w _

/-- the cells of a rule -/
def ruC (a b c d : Value) (r : Ru) : List Value := [a, b, c, .bool r.dbl, .bool r.pat, .bool r.ter, .string (mk r.sta), d, .bool r.has, .string (mk r.aga), .bool r.blt]
/-- a rule and its four lists -/
structure Rx where
  r : Ru
  a : Value
  b : Value
  c : Value
  d : Value
def rxC (x : Rx) : List Value := ruC x.a x.b x.c x.d x.r
/-- its lists read so -/
structure RxS (w : World) (x : Rx) : Prop where
  ts : Strs w x.a x.r.ts
  ps : Strs w x.b x.r.ps
  os : Strs w x.c x.r.os
  rc : Strs w x.d x.r.rcp
theorem RxS.below {w w' : World} {x : Rx} (h : RxS w x) (hb : Below w.heap.size w w') : RxS w' x := ⟨h.ts.below hb, h.ps.below hb, h.os.below hb, h.rc.below hb⟩
def flatR (L : List Rx) : List Value := L.flatMap rxC
theorem flatR_snoc (L : List Rx) (x : Rx) : flatR (L ++ [x]) = flatR L ++ rxC x := by unfold flatR; rw [List.flatMap_append]; simp
theorem flatR_app (L L' : List Rx) : flatR (L ++ L') = flatR L ++ flatR L' := by unfold flatR; rw [List.flatMap_append]
theorem rxC_len (x : Rx) : (rxC x).length = 11 := rfl
theorem flatR_len : ∀ L : List Rx, (flatR L).length = L.length * 11
  | [] => rfl
  | x :: r => by
    have e : flatR (x :: r) = rxC x ++ flatR r := rfl
    rw [e, List.length_append, flatR_len r, rxC_len, List.length_cons]; omega
theorem flatR_get : ∀ (L : List Rx) (j i : Nat), i < 11 → (flatR L)[j * 11 + i]? = (L[j]?).bind fun x => (rxC x)[i]?
  | [], j, i, _ => by simp [flatR]
  | x :: r, 0, i, h => by
    have e : flatR (x :: r) = rxC x ++ flatR r := rfl
    rw [e, Nat.zero_mul, Nat.zero_add, List.getElem?_append_left (by rw [rxC_len]; exact h)]; rfl
  | x :: r, j + 1, i, h => by
    have e : flatR (x :: r) = rxC x ++ flatR r := rfl
    rw [e, List.getElem?_append_right (by rw [rxC_len]; omega), rxC_len, show (j + 1) * 11 + i - 11 = j * 11 + i by omega, flatR_get r j i h]; rfl
/-- a rule's eleven cells at a place -/
structure RuAt (w : World) (b o : Nat) (x : Rx) : Prop where
  c0 : w.cell? ⟨b, o, none⟩ = some x.a
  c1 : w.cell? ⟨b, o + 1, none⟩ = some x.b
  c2 : w.cell? ⟨b, o + 2, none⟩ = some x.c
  c3 : w.cell? ⟨b, o + 3, none⟩ = some (.bool x.r.dbl)
  c4 : w.cell? ⟨b, o + 4, none⟩ = some (.bool x.r.pat)
  c5 : w.cell? ⟨b, o + 5, none⟩ = some (.bool x.r.ter)
  c6 : w.cell? ⟨b, o + 6, none⟩ = some (.string (mk x.r.sta))
  c7 : w.cell? ⟨b, o + 7, none⟩ = some x.d
  c8 : w.cell? ⟨b, o + 8, none⟩ = some (.bool x.r.has)
  c9 : w.cell? ⟨b, o + 9, none⟩ = some (.string (mk x.r.aga))
  c10 : w.cell? ⟨b, o + 10, none⟩ = some (.bool x.r.blt)
theorem RuAt.block {w w' : World} {b o : Nat} {x : Rx} (h : RuAt w b o x) (hk : w'.heap[b]? = w.heap[b]?) : RuAt w' b o x := by
  have k : ∀ i, w'.cell? ⟨b, i, none⟩ = w.cell? ⟨b, i, none⟩ := fun i => World.cell?_of_block (a := ⟨b, i, none⟩) hk
  exact ⟨(k _).trans h.c0, (k _).trans h.c1, (k _).trans h.c2, (k _).trans h.c3, (k _).trans h.c4, (k _).trans h.c5, (k _).trans h.c6, (k _).trans h.c7, (k _).trans h.c8, (k _).trans h.c9, (k _).trans h.c10⟩
def zeroRx : Rx := ⟨⟨[], [], [], false, false, false, [], [], false, [], false⟩, .slice none 0 0, .slice none 0 0, .slice none 0 0, .slice none 0 0⟩
/-- a slice that reads as rules -/
def Rls (w : World) (v : Value) (L : List Rx) : Prop :=
  ((∃ a c, v = .slice a 0 c ∧ L = []) ∨ ∃ b off cap, v = .slice (some ⟨b, off, none⟩) L.length cap ∧ b < w.heap.size ∧ ∀ j, j < L.length → RuAt w b (off + j * 11) (L.getD j zeroRx)) ∧ ∀ x ∈ L, RxS w x
theorem Rls.form {w : World} {v : Value} {L : List Rx} (h : Rls w v L) : ∃ a c, v = .slice a L.length c := by
  rcases h.1 with ⟨a, c, rfl, rfl⟩ | ⟨b, off, cap, rfl, _⟩
  · exact ⟨_, _, rfl⟩
  · exact ⟨_, _, rfl⟩
theorem Rls.below {w w' : World} {v : Value} {L : List Rx} (h : Rls w v L) (hb : Below w.heap.size w w') : Rls w' v L := by
  refine ⟨?_, fun x hx => (h.2 x hx).below hb⟩
  rcases h.1 with h | ⟨b, off, cap, e, h3, h4⟩
  · exact .inl h
  · exact .inr ⟨b, off, cap, e, Nat.lt_of_lt_of_le h3 hb.size, fun j hj => (h4 j hj).block (hb.block b h3)⟩
/-- its lists lie in rows of the call's own -/
structure RxO (w : World) (base : Nat) (x : Rx) : Prop where
  ts : OwnS w base x.a x.r.ts
  ps : OwnS w base x.b x.r.ps
  os : OwnS w base x.c x.r.os
  rc : OwnS w base x.d x.r.rcp
theorem RxO.reads {w : World} {base : Nat} {x : Rx} (h : RxO w base x) : RxS w x := ⟨Strs.of_row h.ts, Strs.of_row h.ps, Strs.of_row h.os, Strs.of_row h.rc⟩
theorem RxO.below {w w' : World} {base : Nat} {x : Rx} (h : RxO w base x) (hb : Below w.heap.size w w') : RxO w' base x := ⟨own_below h.ts hb, own_below h.ps hb, own_below h.os hb, own_below h.rc hb⟩
theorem RxO.mono {w : World} {base base' : Nat} {x : Rx} (h : RxO w base x) (hB : base' ≤ base) : RxO w base' x := ⟨own_mono h.ts hB, own_mono h.ps hB, own_mono h.os hB, own_mono h.rc hB⟩
/-- a row of rules of the call's own -/
structure OwnR (w : World) (base : Nat) (v : Value) (L : List Rx) : Prop where
  row : w.ownsRow base 43 11 v L.length (flatR L)
  lists : ∀ x ∈ L, RxO w base x
theorem OwnR.nil (w : World) (base : Nat) : OwnR w base (.slice none 0 0) [] := ⟨World.ownsRow_nil _ _ _ _, fun _ h => (by cases h)⟩
theorem OwnR.below {w w' : World} {base : Nat} {v : Value} {L : List Rx} (h : OwnR w base v L) (hb : Below w.heap.size w w') : OwnR w' base v L := ⟨own_below h.row hb, fun x hx => (h.lists x hx).below hb⟩
theorem OwnR.mono {w : World} {base base' : Nat} {v : Value} {L : List Rx} (h : OwnR w base v L) (hB : base' ≤ base) : OwnR w base' v L := ⟨own_mono h.row hB, fun x hx => (h.lists x hx).mono hB⟩
theorem OwnR.form {w : World} {base : Nat} {v : Value} {L : List Rx} (h : OwnR w base v L) : ∃ a c, v = .slice a L.length c := own_len h.row
theorem ruAt_row {w : World} {base g n cap : Nat} {L : List Rx} (h : w.ownsRow base 43 11 (.slice (some ⟨g, 0, none⟩) n cap) L.length (flatR L)) (j : Nat) (hj : j < L.length) : RuAt w g (0 + j * 11) (L.getD j zeroRx) := by
  rcases h.2 with ⟨e, _⟩ | ⟨g', cap', cur, e, hg, hgb, h1, h2, h3, h4⟩
  · cases e
  · simp only [Value.slice.injEq, Option.some.injEq, Addr.mk.injEq] at e
    obtain ⟨⟨rfl, _⟩, _, _⟩ := e
    have key : ∀ i, i < 11 → w.cell? ⟨g, 0 + j * 11 + i, none⟩ = (rxC (L.getD j zeroRx))[i]? := fun i hi => by
      have e1 : (flatR L)[j * 11 + i]? = (rxC (L.getD j zeroRx))[i]? := by
        rw [flatR_get L j i hi, List.getD_eq_getElem?_getD, List.getElem?_eq_getElem hj]; rfl
      rw [← e1, ← h4, List.getElem?_take_of_lt (by omega), Nat.zero_add]
      simp only [World.cell?, hgb]
      simp
    exact ⟨key 0 (by omega), key 1 (by omega), key 2 (by omega), key 3 (by omega), key 4 (by omega), key 5 (by omega), key 6 (by omega), key 7 (by omega), key 8 (by omega), key 9 (by omega), key 10 (by omega)⟩
theorem OwnR.reads {w : World} {base : Nat} {v : Value} {L : List Rx} (h : OwnR w base v L) : Rls w v L := by
  refine ⟨?_, fun x hx => (h.lists x hx).reads⟩
  rcases h.row.2 with ⟨rfl, h0⟩ | ⟨g, cap, cur, rfl, hg, hgb, r⟩
  · exact .inl ⟨_, _, rfl, List.length_eq_zero_iff.1 h0⟩
  · exact .inr ⟨g, 0, cap, rfl, lt_of_block hgb, fun j hj => ruAt_row h.row j hj⟩
/-- lists and texts of at most so much -/
structure FitR (m : Nat) (r : Ru) : Prop where
  lt : r.ts.length ≤ 100000
  lp : r.ps.length ≤ 100000
  lo : r.os.length ≤ 100000
  lr : r.rcp.length ≤ 100000
  nt : ∀ x ∈ r.ts, x.length ≤ m
  np : ∀ x ∈ r.ps, x.length ≤ m
  no : ∀ x ∈ r.os, x.length ≤ m
  nr : ∀ x ∈ r.rcp, x.length ≤ m
  ns : r.sta.length ≤ m
  na : r.aga.length ≤ m
theorem row_grow {w w' : World} {tmp : Obj} {B B' e e' size size' n n' : Nat} {v v' : Value} {xs xs' : List Value} (h : w.ownsRow B e size v n xs) (hr : w.ownsRow B' e' size' v' n' xs') (he : e ≠ e') (hg : (w.alloc tmp).grownBy w' v'.ownBlock) : w'.ownsRow B e size v n xs :=
  own_kept h fun g hgg => (hg.block g (by have := own_lt h g hgg; simp; omega) (fun e1 => own_apart h hr he hgg e1.symm)).trans (Below.heap_alloc _ _ g (own_lt h g hgg))
theorem own_set {w : World} {B e size n : Nat} {v : Value} {xs : List Value} (h : w.ownsRow B e size v n xs) {A : Nat} {cs : Array Value} {t : TypeId} {f : Nat × Nat} (hA : w.heap[A]? = some (.cells cs t f)) (ht : t ≠ e) (j : Nat) (u : Value) : (w.setCell ⟨A, j, none⟩ u).ownsRow B e size v n xs :=
  own_kept h fun _ hg => set_other _ _ _ _ (fun e1 => own_block h hA ht (e1 ▸ hg))
theorem info43 : (Tryd.prog.info? 43).map (fun i : TypeInfo => (i.zero, i.size, i.bytes)) = some (some (.agg #[.slice none 0 0, .slice none 0 0, .slice none 0 0, .bool false, .bool false, .bool false, .string ⟨#[]⟩, .slice none 0 0, .bool false, .string ⟨#[]⟩, .bool false]), 11, 152) := by kernel_rfl
end Go.Proofs.YtkmedgdpcifnoaaDoor
