/- Bytes, nodes and a file system in memory; what append does to bytes. A file system in memory: its own block, the map of its nodes, the nodes and their bytes; what a look-up, a store and a deletion do. -/
import Derived.Test.YtabmnkddmdffkaaGreatDoorAWord
import Derived.Test.YtabmnkddmdffkaaGreatDoorATree
import Derived.Maps.OwnIn
import Derived.Maps.RangeWalk
import Derived.Deep.AppendSrc
import Derived.Lib.BufferWrite
import Derived.BigQuiet
import Derived.OneCell
namespace Go.Proofs.YtabmnkddmdffkaaGreatDoor
open Go.RowKit Go.Maps

theorem below_drewn {B : Nat} {w : World} (q : Nat) : Below B w (w.drewN q) := ⟨rfl, rfl, rfl, Nat.le_refl _, fun _ _ => rfl⟩
theorem below_grown {w w' : World} {r : Option Nat} (h : Below w.heap.size w w') : w.grownBy w' r := ⟨h.os, h.tape, h.output, h.size, fun k hk _ => h.block k hk⟩

/-- of what was there nothing has turned but blocks of S -/
structure Turn (S : Nat → Prop) (w w' : World) : Prop where
  os : w'.os = w.os
  tape : w'.tape = w.tape
  output : w'.output = w.output
  size : w.heap.size ≤ w'.heap.size
  block : ∀ k, k < w.heap.size → ¬ S k → w'.heap[k]? = w.heap[k]?
theorem Turn.refl (S : Nat → Prop) (w : World) : Turn S w w := ⟨rfl, rfl, rfl, Nat.le_refl _, fun _ _ _ => rfl⟩
theorem Turn.drew {S : Nat → Prop} {w w' : World} (h : Turn S w w') : Turn S w w'.drew := ⟨h.os, h.tape, h.output, h.size, h.block⟩
theorem Turn.drewN {S : Nat → Prop} {w w' : World} (h : Turn S w w') (n : Nat) : Turn S w (w'.drewN n) := ⟨h.os, h.tape, h.output, h.size, h.block⟩
theorem Turn.alloc {S : Nat → Prop} {w w' : World} (h : Turn S w w') (o : Obj) : Turn S w (w'.alloc o) := ⟨h.os, h.tape, h.output, Nat.le_trans h.size (by simp), fun k hk hn => (Below.heap_alloc _ _ k (Nat.lt_of_lt_of_le hk h.size)).trans (h.block k hk hn)⟩
theorem Turn.of_below {S : Nat → Prop} {w w' : World} (h : Below w.heap.size w w') : Turn S w w' := ⟨h.os, h.tape, h.output, h.size, fun k hk _ => h.block k hk⟩
theorem Turn.trans {S S' : Nat → Prop} {a b c : World} (h : Turn S a b) (k : Turn S' b c) (hS : ∀ i, S' i → S i ∨ a.heap.size ≤ i) : Turn S a c :=
  ⟨k.os.trans h.os, k.tape.trans h.tape, k.output.trans h.output, Nat.le_trans h.size k.size, fun i hi hn =>
    (k.block i (Nat.lt_of_lt_of_le hi h.size) (fun hs => by rcases hS i hs with h1 | h1; exact hn h1; omega)).trans (h.block i hi hn)⟩
theorem Turn.trans' {S : Nat → Prop} {a b c : World} (h : Turn S a b) (k : Turn S b c) : Turn S a c := h.trans k fun _ hi => .inl hi
theorem Turn.below {S : Nat → Prop} {w w' : World} (h : Turn S w w') {B : Nat} (hB : B ≤ w.heap.size) (hS : ∀ i, S i → B ≤ i) : Below B w w' :=
  ⟨h.os, h.tape, h.output, h.size, fun k hk => h.block k (by omega) fun hs => by have := hS k hs; omega⟩
theorem Turn.of_grown {S : Nat → Prop} {w w' : World} {r : Option Nat} (h : w.grownBy w' r) (hr : ∀ k, r = some k → S k) : Turn S w w' :=
  ⟨h.os, h.tape, h.output, h.size, fun k hk hn => h.block k hk fun e => hn (hr k e.symm)⟩
theorem Turn.mono {S S' : Nat → Prop} {w w' : World} (h : Turn S w w') (hS : ∀ i, S i → S' i) : Turn S' w w' := ⟨h.os, h.tape, h.output, h.size, fun k hk hn => h.block k hk fun hs => hn (hS k hs)⟩

theorem add_block (a : Addr) (j : Nat) : (a.add j).block = a.block := by unfold Addr.add; split <;> rfl
theorem add_zero (g j : Nat) : (⟨g, 0, none⟩ : Addr).add j = ⟨g, j, none⟩ := by rw [Addr.add_lit, Nat.zero_add]
/-- a slice that reads as bytes -/
def Rds (w : World) (v : Value) (bs : Bs) : Prop :=
  (v = .slice none 0 0 ∧ bs = []) ∨ ∃ a cap, v = .slice (some a) bs.length cap ∧ (bs ≠ [] → a.block < w.heap.size) ∧ ∀ j u, (Lib.byteCells bs)[j]? = some u → w.cell? (a.add j) = some u
/-- bytes in a row of their own -/
def Dat (w : World) (v : Value) (bs : Bs) : Prop :=
  (v = .slice none 0 0 ∧ bs = []) ∨ ∃ g cap cur, v = .slice (some ⟨g, 0, none⟩) bs.length cap ∧ w.heap[g]? = some (.cells cur 5 (0, 0)) ∧ bs.length ≤ cap ∧ cap ≤ cur.size ∧ cap ≤ maxLen ∧ cur.toList.take bs.length = Lib.byteCells bs
theorem Dat.nil (w : World) : Dat w (.slice none 0 0) [] := .inl ⟨rfl, rfl⟩
theorem Dat.len {w : World} {v : Value} {bs : Bs} (h : Dat w v bs) : ∃ a cap, v = .slice a bs.length cap := by
  rcases h with ⟨rfl, rfl⟩ | ⟨g, cap, cur, rfl, _⟩
  · exact ⟨_, _, rfl⟩
  · exact ⟨_, _, rfl⟩
theorem Rds.len {w : World} {v : Value} {bs : Bs} (h : Rds w v bs) : ∃ a cap, v = .slice a bs.length cap := by
  rcases h with ⟨rfl, rfl⟩ | ⟨g, cap, rfl, _⟩
  · exact ⟨_, _, rfl⟩
  · exact ⟨_, _, rfl⟩
theorem Dat.rds {w : World} {v : Value} {bs : Bs} (h : Dat w v bs) : Rds w v bs := by
  rcases h with ⟨rfl, rfl⟩ | ⟨g, cap, cur, rfl, hg, h1, h2, h3, h4⟩
  · exact .inl ⟨rfl, rfl⟩
  · refine .inr ⟨_, _, rfl, fun _ => lt_of_block hg, fun j u hj => ?_⟩
    have hjl : j < bs.length := by
      have := (List.getElem?_eq_some_iff.1 hj).1
      rwa [Lib.byteCells_length] at this
    rw [← h4, List.getElem?_take_of_lt hjl] at hj
    rw [add_zero, Lib.cell_of_heap hg]
    simpa using hj
theorem Dat.kept {w w' : World} {v : Value} {bs : Bs} (h : Dat w v bs) (hk : ∀ g, v.ownBlock = some g → w'.heap[g]? = w.heap[g]?) : Dat w' v bs := by
  rcases h with h | ⟨g, cap, cur, rfl, hg, r⟩
  · exact .inl h
  · exact .inr ⟨g, cap, cur, rfl, (hk g rfl).trans hg, r⟩
theorem Dat.lt {w : World} {v : Value} {bs : Bs} (h : Dat w v bs) : ∀ g, v.ownBlock = some g → g < w.heap.size := by
  intro g hg
  rcases h with ⟨rfl, _⟩ | ⟨g', cap, cur, rfl, hb, r⟩
  · cases hg
  · cases hg; exact lt_of_block hb
theorem Dat.elem {w : World} {v : Value} {bs : Bs} (h : Dat w v bs) : ∀ g, v.ownBlock = some g → ∃ cur, w.heap[g]? = some (.cells cur 5 (0, 0)) := by
  intro g hg
  rcases h with ⟨rfl, _⟩ | ⟨g', cap, cur, rfl, hb, r⟩
  · cases hg
  · cases hg; exact ⟨_, hb⟩
theorem cells_ne {bs : Bs} {j : Nat} {u : Value} (h : (Lib.byteCells bs)[j]? = some u) : bs ≠ [] := by
  intro e
  subst e
  have := (List.getElem?_eq_some_iff.1 h).1
  rw [Lib.byteCells_length] at this
  exact absurd this (Nat.not_lt_zero _)
theorem Rds.below {w w' : World} {v : Value} {bs : Bs} (h : Rds w v bs) (hb : Below w.heap.size w w') : Rds w' v bs := by
  rcases h with h | ⟨a, cap, rfl, hl, hc⟩
  · exact .inl h
  · exact .inr ⟨a, cap, rfl, fun h => Nat.lt_of_lt_of_le (hl h) hb.size, fun j u hj => (hb.cell (p := a.add j) (by rw [add_block]; exact hl (cells_ne hj))).trans (hc j u hj)⟩
theorem Rds.kept {w w' : World} {v : Value} {bs : Bs} (h : Rds w v bs) (hs : w.heap.size ≤ w'.heap.size) (hk : bs ≠ [] → ∀ g, v.ownBlock = some g → w'.heap[g]? = w.heap[g]?) : Rds w' v bs := by
  rcases h with h | ⟨a, cap, rfl, hl, hc⟩
  · exact .inl h
  · exact .inr ⟨a, cap, rfl, fun h => Nat.lt_of_lt_of_le (hl h) hs, fun j u hj => (World.cell?_of_block (a := a.add j) (by rw [add_block]; exact hk (cells_ne hj) a.block rfl)).trans (hc j u hj)⟩
theorem Rds.src {w : World} {v : Value} {bs : Bs} (h : Rds w v bs) : Src Tryz.prog 1 57 v bs.length (Lib.byteCells bs) w := by
  rcases h with ⟨rfl, rfl⟩ | ⟨a, cap, rfl, _, hc⟩
  · exact Src.ofNil w Tryz.underlying57 0
  · exact Src.ofSlice w Tryz.underlying57 a bs.length cap (Lib.byteCells bs) (by rw [Lib.byteCells_length, Nat.mul_one]) hc (Lib.byteCells_one bs)

theorem info5 : (Tryz.prog.info? 5).map (fun i : TypeInfo => (i.zero, i.size, i.bytes)) = some (some (.int .u8 0), 1, 1) := by kernel_rfl

/-- a new row of bytes -/
theorem dat_new (w : World) (xs : List Value) (bs : Bs) (z : Array Value) (cap : Nat) (hx : xs = Lib.byteCells bs) (hz : z.size = 1) (h1 : bs.length ≤ cap) (h2 : cap ≤ maxLen) :
    Dat (w.drew.alloc (.cells (xs.toArray ++ Builtin.zeroCells z (cap - bs.length)) 5)) (.slice (some ⟨w.heap.size, 0, none⟩) bs.length cap) bs := by
  have hl : xs.length = bs.length := by rw [hx, Lib.byteCells_length]
  refine .inr ⟨w.heap.size, cap, _, rfl, heap_alloc_new w.drew _, h1, ?_, h2, ?_⟩
  · simp only [Array.size_append, List.size_toArray, size_zeroCells, hz, hl]
    omega
  · rw [Array.toList_append, ← hl, List.take_left' (by simp)]
    exact hx
set_option maxHeartbeats 1000000 in
/-- append(v, x...), v's bytes in a row of their own -/
theorem append_dat {v x : Value} {xs ys : Bs} (ty : TypeId) (w : World) (hv : Dat w v xs) (hx : Rds w x ys) (hsz : xs.length + ys.length ≤ 1099511627776) :
    ∃ v' w', (Builtin.append_ #[57, 57] ty #[v, x]).run Tryz.prog w = .ok v' w' ∧ Dat w' v' (xs ++ ys) ∧ Dat w' v xs ∧ w.grownBy w' v.ownBlock ∧ (v'.ownBlock = v.ownBlock ∨ v'.ownBlock = some w.heap.size) := by
  obtain ⟨i, hi, hz0, hz1, hz2⟩ := info_parts info5
  have hs := hx.src
  have hbl := Lib.byteCells_length ys
  have hxl := Lib.byteCells_length xs
  have hml : xs.length + ys.length ≤ maxLen := by unfold maxLen; omega
  have e3 : Lib.byteCells (xs ++ ys) = Lib.byteCells xs ++ Lib.byteCells ys := Lib.byteCells_append xs ys
  have hlen : (xs ++ ys).length = xs.length + ys.length := List.length_append
  rcases hv with ⟨rfl, rfl⟩ | ⟨g, cap, cur, rfl, hg, h1, h2, h3, h4⟩
  · by_cases hy : ys = []
    · subst hy
      refine ⟨.slice none 0 0, w, ?_, .inl ⟨rfl, rfl⟩, .inl ⟨rfl, rfl⟩, ⟨rfl, rfl, rfl, Nat.le_refl _, fun _ _ _ => rfl⟩, .inl rfl⟩
      rcases hx with ⟨rfl, _⟩ | ⟨a, c, rfl, _, _⟩
      · simp [Builtin.append_, run_underlying Tryz.underlying57, sizeOf, typeInfo, hi, Builtin.lenOf, Builtin.firstCells]
      · simp [Builtin.append_, run_underlying Tryz.underlying57, sizeOf, typeInfo, hi, Builtin.lenOf, Builtin.firstCells, loadCells, loadCellsFrom]
    · have hpos : 0 < ys.length := List.length_pos_iff.2 hy
      have hr := run_append_grow_src w 57 57 ty 5 i (.int .u8 0) Tryz.underlying57 hi hz0 none 0 0 [] (run_firstCells_none w.drew i.size 0 0 0) x ys.length (Lib.byteCells ys) (by rw [hz1]; exact hs) (by omega) (by omega)
        (by rw [hz2]; exact growslice_fits (by omega) (by omega))
      simp only [List.nil_append, Nat.zero_add] at hr
      refine ⟨_, _, hr, ?_, .inl ⟨rfl, rfl⟩, ⟨rfl, rfl, rfl, by simp, fun k hk _ => Lib.alloc_old w.drew _ k hk⟩, .inr rfl⟩
      exact dat_new w _ ys _ _ rfl rfl (grownCap_ge _ _ _ _) (grownCap_le_maxLen _ _ _ _ (by omega))
  · by_cases hroom : xs.length + ys.length ≤ cap
    · rcases hx with ⟨rfl, rfl⟩ | ⟨a, c, rfl, hal, hc⟩
      · refine ⟨_, _, run_append_room_src w 57 57 ty 5 i Tryz.underlying57 hi g 0 xs.length cap (.slice none 0 0) 0 [] (by rw [hz1]; exact hs) (by simpa using hroom) (by simp) (by simp), ?_, ?_, ⟨rfl, rfl, rfl, Nat.le_refl _, fun _ _ _ => rfl⟩, .inl rfl⟩
        · rw [List.append_nil]
          exact .inr ⟨g, cap, cur, rfl, hg, h1, h2, h3, h4⟩
        · exact .inr ⟨g, cap, cur, rfl, hg, h1, h2, h3, h4⟩
      · have hr := run_append_room (P := Tryz.prog) w 57 ty 5 i Tryz.underlying57 hi g xs.length cap cur hg a ys.length c (Lib.byteCells ys) (by rw [hbl, hz1, Nat.mul_one]) hc (Lib.byteCells_one ys) hroom (by rw [hbl, hz1]; omega)
        rw [hz1, Nat.mul_one, h4] at hr
        have hcs : (Lib.byteCells xs ++ Lib.byteCells ys ++ cur.toList.drop (xs.length + (Lib.byteCells ys).length)).toArray.size = cur.size := by
          simp only [List.size_toArray, List.length_append, hxl, hbl, List.length_drop, Array.length_toList]
          omega
        refine ⟨_, _, hr, ?_, ?_, ⟨rfl, rfl, rfl, by simp, fun k _ hk => setRow_other w g k _ (fun e => hk (by simp [Value.ownBlock, e]))⟩, .inl rfl⟩
        · refine .inr ⟨g, cap, _, by rw [hlen], setRow_heap w g cur _ 5 _ hg, by omega, by rw [hcs]; exact h2, h3, ?_⟩
          rw [e3, List.take_left' (by rw [List.length_append, hxl, hbl, hlen])]
        · refine .inr ⟨g, cap, _, rfl, setRow_heap w g cur _ 5 _ hg, h1, by rw [hcs]; exact h2, h3, ?_⟩
          rw [List.append_assoc, List.take_left' hxl]
    · have hold : (Builtin.firstCells i.size xs.length (.slice (some ⟨g, 0, none⟩) xs.length cap)).run Tryz.prog w.drew = .ok (Lib.byteCells xs).toArray w.drew := by
        refine run_firstCells_some w.drew i.size xs.length ⟨g, 0, none⟩ xs.length cap (Lib.byteCells xs) (by rw [hxl, hz1, Nat.mul_one]) fun j u hj => ?_
        have hD : Dat w (.slice (some ⟨g, 0, none⟩) xs.length cap) xs := .inr ⟨g, cap, cur, rfl, hg, h1, h2, h3, h4⟩
        rcases hD.rds with ⟨e, _⟩ | ⟨a', cap', e, _, hcc⟩
        · cases e
        · cases e
          simpa using hcc j u hj
      have hr := run_append_grow_src w 57 57 ty 5 i (.int .u8 0) Tryz.underlying57 hi hz0 (some ⟨g, 0, none⟩) xs.length cap (Lib.byteCells xs) hold x ys.length (Lib.byteCells ys) (by rw [hz1]; exact hs) (by omega) (by omega)
        (by rw [hz2]; exact growslice_fits (by omega) (by omega))
      refine ⟨_, _, hr, ?_, .inr ⟨g, cap, cur, rfl, (Lib.alloc_old w.drew _ g (lt_of_block hg)).trans hg, h1, h2, h3, h4⟩, ⟨rfl, rfl, rfl, by simp, fun k hk _ => Lib.alloc_old w.drew _ k hk⟩, .inr rfl⟩
      have := dat_new w _ (xs ++ ys) (Value.int .u8 0).cells (grownCap w (xs.length + ys.length) cap 5) e3.symm rfl (by rw [hlen]; exact grownCap_ge _ _ _ _) (grownCap_le_maxLen _ _ _ _ hml)
      rw [hlen] at this
      exact this
/-- append(v, x...) at the operation -/
theorem wpList_append_dat {v x : Value} {xs ys : Bs} (w : World) {ops : Array Oper} {rest : List Oper} {o : Oper} {a : Act} {Q : Exit → Act → World → Prop} (hgd : o.guard = none) (s y : Operand)
    (ho : o.op = .call { callee := .builtin .append, args := #[s, y], argTypes := #[57, 57] }) (hs : a.eval s = v) (hy : a.eval y = x)
    (hv : Dat w v xs) (hx : Rds w x ys) (hsz : xs.length + ys.length ≤ 1099511627776)
    (h : ∀ v' w', Dat w' v' (xs ++ ys) → Dat w' v xs → w.grownBy w' v.ownBlock → (v'.ownBlock = v.ownBlock ∨ v'.ownBlock = some w.heap.size) → wpList Tryz.prog ops Q rest (a.put o.dst v') w') :
    wpList Tryz.prog ops Q (o :: rest) a w := by
  refine wpList_plain hgd fun K hK => ?_
  obtain ⟨v', w', hr, h2, h3, h4, h5⟩ := append_dat o.type w hv hx hsz
  unfold Oper.wp execOp
  simp only [ho, resolve, invoke, builtin, Sem.run_bind, Sem.run_pure, Result.andThen_ok, List.map_toArray, List.map_cons, List.map_nil, hs, hy, hr]
  exact hK _ _ (h v' w' h2 h3 h4 h5)
end Go.Proofs.YtabmnkddmdffkaaGreatDoor
namespace Go.Proofs.YtabmnkddmdffkaaGreatDoor
open Go.RowKit Go.Maps

/-- how a pointer to a node reads: by its block -/
def ptrElem : Value → Option (DataW Unit × List MemPlace)
  | .pointer none => some (.nil, [])
  | .pointer (some ⟨b, 0, none⟩) => some (.lit (.int .u64 b), [])
  | _ => none
theorem ptrElem_lit {v : Value} {b : Nat} {ps : List MemPlace} (h : ptrElem v = some (.lit (.int .u64 b), ps)) : v = .pointer (some ⟨b, 0, none⟩) := by
  unfold ptrElem at h
  split at h
  · cases h
  · rename_i b'
    simp only [Option.some.injEq, Prod.mk.injEq, DataW.lit.injEq, Lit.int.injEq, true_and] at h
    obtain ⟨h, _⟩ := h
    have : b' = b := by omega
    rw [this]
  · cases h
theorem ptrElem_nil {v : Value} {ps : List MemPlace} (h : ptrElem v = some (.nil, ps)) : v = .pointer none := by
  unfold ptrElem at h
  split at h
  · rfl
  · simp at h
  · cases h
theorem ptrElem_inv {v : Value} {z : DataW Unit × List MemPlace} (h : ptrElem v = some z) : ∃ o : Option Nat, v = .pointer (o.map fun b => ⟨b, 0, none⟩) := by
  unfold ptrElem at h
  split at h
  · exact ⟨none, rfl⟩
  · exact ⟨some _, rfl⟩
  · cases h

/-- an entry: its node's block, the slice of its bytes, the node -/
structure En where
  blk : Nat
  dv : Value
  nd : Nd
abbrev Ents := List (Bs × En)
def blks (L : Ents) : List (Bs × Nat) := L.map fun e => (e.1, e.2.blk)
def nds (L : Ents) : List (Bs × Nd) := L.map fun e => (e.1, e.2.nd)
def NodeAt (w : World) (e : En) : Prop := w.heap[e.blk]? = some (.cells #[.bool e.nd.dir, .int .i64 e.nd.time, e.dv] 99 (0, 0))
def Fb (w : World) (A M : Nat) (wt clk rm : Int) : Prop := w.heap[A]? = some (.cells #[.map (some M), .int .i64 wt, .int .i64 clk, .int .i64 rm] 94 (0, 0))
def Mp (w : World) (M : Nat) (L : Ents) : Prop := w.ownsMap Tryz.prog 9 ptrElem M L.length (datum (blks L))

theorem Fb.lt {w : World} {A M : Nat} {wt clk rm : Int} (h : Fb w A M wt clk rm) : A < w.heap.size := lt_of_block h
theorem Fb.c0 {w : World} {A M : Nat} {wt clk rm : Int} (h : Fb w A M wt clk rm) : w.cell? ⟨A, 0, none⟩ = some (.map (some M)) := by unfold Fb at h; rw [Lib.cell_of_heap h]; rfl
theorem Fb.c1 {w : World} {A M : Nat} {wt clk rm : Int} (h : Fb w A M wt clk rm) : w.cell? ⟨A, 1, none⟩ = some (.int .i64 wt) := by unfold Fb at h; rw [Lib.cell_of_heap h]; rfl
theorem Fb.c2 {w : World} {A M : Nat} {wt clk rm : Int} (h : Fb w A M wt clk rm) : w.cell? ⟨A, 2, none⟩ = some (.int .i64 clk) := by unfold Fb at h; rw [Lib.cell_of_heap h]; rfl
theorem Fb.c3 {w : World} {A M : Nat} {wt clk rm : Int} (h : Fb w A M wt clk rm) : w.cell? ⟨A, 3, none⟩ = some (.int .i64 rm) := by unfold Fb at h; rw [Lib.cell_of_heap h]; rfl
theorem Fb.fz {w : World} {A M : Nat} {wt clk rm : Int} (h : Fb w A M wt clk rm) (j : Nat) : w.frozen? ⟨A, j, none⟩ = false := Lib.frozen_of_heap h j
theorem set_row {w : World} {A : Nat} {cs : Array Value} {T : TypeId} (h : w.heap[A]? = some (.cells cs T (0, 0))) (j : Nat) (v : Value) :
    (w.setCell ⟨A, j, none⟩ v).heap[A]? = some (.cells (cs.setIfInBounds j v) T (0, 0)) := by
  have hlt := lt_of_block h
  have h' : w.heap[A] = .cells cs T (0, 0) := by simpa [Array.getElem?_eq_getElem hlt] using h
  show (w.heap.modify A _)[A]? = _
  rw [Array.getElem?_eq_getElem (by simpa using hlt), Array.getElem_modify_self, h']
  rfl
theorem Fb.set1 {w : World} {A M : Nat} {wt clk rm : Int} (h : Fb w A M wt clk rm) (v : Int) : Fb (w.setCell ⟨A, 1, none⟩ (.int .i64 v)) A M v clk rm := set_row h 1 _
theorem Fb.set2 {w : World} {A M : Nat} {wt clk rm : Int} (h : Fb w A M wt clk rm) (v : Int) : Fb (w.setCell ⟨A, 2, none⟩ (.int .i64 v)) A M wt v rm := set_row h 2 _
theorem NodeAt.lt {w : World} {e : En} (h : NodeAt w e) : e.blk < w.heap.size := lt_of_block h
theorem NodeAt.c0 {w : World} {e : En} (h : NodeAt w e) : w.cell? ⟨e.blk, 0, none⟩ = some (.bool e.nd.dir) := by unfold NodeAt at h; rw [Lib.cell_of_heap h]; rfl
theorem NodeAt.c1 {w : World} {e : En} (h : NodeAt w e) : w.cell? ⟨e.blk, 1, none⟩ = some (.int .i64 e.nd.time) := by unfold NodeAt at h; rw [Lib.cell_of_heap h]; rfl
theorem NodeAt.c2 {w : World} {e : En} (h : NodeAt w e) : w.cell? ⟨e.blk, 2, none⟩ = some e.dv := by unfold NodeAt at h; rw [Lib.cell_of_heap h]; rfl
theorem NodeAt.fz {w : World} {e : En} (h : NodeAt w e) (j : Nat) : w.frozen? ⟨e.blk, j, none⟩ = false := Lib.frozen_of_heap h j
theorem NodeAt.set1 {w : World} {e : En} (h : NodeAt w e) (t : Int) : NodeAt (w.setCell ⟨e.blk, 1, none⟩ (.int .i64 t)) { e with nd := { e.nd with time := t } } := set_row h 1 _

theorem key9 : Keyed Tryz.prog 9 := string_keyed Tryz.underlying9
theorem zero74 (w : World) : (zeroValue 97).run Tryz.prog w = .ok (.pointer none) w := by kernel_rfl
theorem keyOf9 (p : Bs) (h : p.length ≤ maxLen) : keyOf Tryz.prog 9 (.string (mk p)) = some (.string p) := by
  have := Go.WideMaps.keyOf_string_mk (P := Tryz.prog) Tryz.underlying9 (s := mk p) (by rw [mk_size]; exact h)
  simpa using this

def ptrOf : Option Nat → Value
  | none => .pointer none
  | some b => .pointer (some ⟨b, 0, none⟩)
theorem blks_fnd (L : Ents) (p : Bs) : fnd (blks L) p = (fnd L p).map En.blk := fnd_map _ _ _
/-- f.nodes[p] -/
theorem Mp.look {w : World} {M : Nat} {L : Ents} (h : Mp w M L) (p : Bs) (hp : p.length ≤ maxLen) : (Instr.lookup 92 (.map (some M)) (.string (mk p)) false).run Tryz.prog w = .ok (ptrOf ((fnd L p).map En.blk)) w := by
  obtain ⟨v, ps, hr, hv⟩ := World.ownsMap.lookup h key9 Tryz.underlying92 (zero74 w) (zd := .nil) (zp := []) rfl (keyOf9 p hp)
  rw [hr]
  rw [datum_at, blks_fnd] at hv
  cases ho : fnd L p with
  | none =>
    rw [ho] at hv
    rw [ptrElem_nil hv]; rfl
  | some e =>
    rw [ho] at hv
    rw [ptrElem_lit hv]; rfl
theorem Mp.tight {w : World} {M n : Nat} {L : Ents} (h : w.ownsMap Tryz.prog 9 ptrElem M n (datum (blks L))) : Mp w M L := by
  have hz := datum_size (H := Unit) (blks L)
  obtain ⟨es, clock, hb, F, hs, hD⟩ := h
  refine ⟨es, clock, hb, F, ?_, hD⟩
  rw [hD] at hz
  simp only [Maps.size, length_sorted, List.length_map, Array.length_toList] at hz
  rw [hz]
  simp [blks]
theorem Mp.lt {w : World} {M : Nat} {L : Ents} (h : Mp w M L) : M < w.heap.size := World.ownsMap.lt h
theorem Mp.isMap {w : World} {M : Nat} {L : Ents} (h : Mp w M L) : ∃ es c, w.heap[M]? = some (.map es c) := by obtain ⟨es, c, hb, _⟩ := h; exact ⟨es, c, hb⟩
theorem Mp.kept {w w' : World} {M : Nat} {L : Ents} (h : Mp w M L) (hk : w'.heap[M]? = w.heap[M]?) : Mp w' M L := by
  obtain ⟨es, clock, hb, r⟩ := h
  exact ⟨es, clock, hk.trans hb, r⟩
theorem blks_put (L : Ents) (p : Bs) (e : En) : blks (put L p e) = put (blks L) p e.blk := put_map _ _ _ _
theorem blks_del (L : Ents) (p : Bs) : blks (del L p) = del (blks L) p := del_map _ _ _
theorem nds_put (L : Ents) (p : Bs) (e : En) : nds (put L p e) = put (nds L) p e.nd := put_map _ _ _ _
theorem nds_del (L : Ents) (p : Bs) : nds (del L p) = del (nds L) p := del_map _ _ _
theorem nds_fnd (L : Ents) (p : Bs) : fnd (nds L) p = (fnd L p).map En.nd := fnd_map _ _ _
theorem nds_length (L : Ents) : (nds L).length = L.length := List.length_map _
theorem grown_turned {w w' : World} {b : Nat} (h : w.mapTurned w' b) : w.grownBy w' (some b) := h.grown
/-- f.nodes[p] = n -/
theorem Mp.put {w : World} {M : Nat} {L : Ents} (h : Mp w M L) (hn : L.length ≤ 1000000) (p : Bs) (hp : p.length ≤ maxLen) (e : En) :
    ∃ w', (Instr.mapUpdate 92 (.map (some M)) (.string (mk p)) (.pointer (some ⟨e.blk, 0, none⟩))).run Tryz.prog w = .ok () w' ∧ Mp w' M (YtabmnkddmdffkaaGreatDoor.put L p e) ∧ w.grownBy w' (some M) := by
  obtain ⟨w', hr, h1, h2⟩ := World.ownsMap.update h key9 Tryz.underlying92 (by unfold maxLen; omega) (keyOf9 p hp) (d := .lit (.int .u64 e.blk)) (ps := []) (val := .pointer (some ⟨e.blk, 0, none⟩)) rfl
  rw [datum_put, ← blks_put] at h1
  exact ⟨w', hr, Mp.tight h1, h2⟩
/-- delete(f.nodes, p) -/
theorem Mp.del {w : World} {M : Nat} {L : Ents} (h : Mp w M L) (p : Bs) (hp : p.length ≤ maxLen) (ty : TypeId) :
    ∃ w', (Builtin.delete_ #[92, 9] ty #[.map (some M), .string (mk p)]).run Tryz.prog w = .ok (.tuple #[]) w' ∧ Mp w' M (YtabmnkddmdffkaaGreatDoor.del L p) ∧ w.grownBy w' (some M) := by
  obtain ⟨w', hr, h1, h2⟩ := World.ownsMap.drop h key9 Tryz.underlying92 (keyOf9 p hp) ty
  rw [datum_del, ← blks_del] at h1
  exact ⟨w', hr, Mp.tight h1, h2.grown⟩
/-- len(f.nodes) -/
theorem Mp.len {w : World} {M : Nat} {L : Ents} (h : Mp w M L) (ty : TypeId) : (Builtin.len_ #[92] ty #[.map (some M)]).run Tryz.prog w = .ok (.int .i64 L.length) w := by
  rw [World.ownsMap.len h Tryz.underlying92 ty, datum_size]
  simp [blks]

/-- at the operation: f.nodes[p] = n -/
theorem wpList_put (w : World) {ops : Array Oper} {rest : List Oper} {o : Oper} {a : Act} {Q : Exit → Act → World → Prop} (hg : o.guard = none) (m x v : Operand) (hop : o.op = Op.mapUpdate 92 m x v)
    (M : Nat) (L : Ents) (hm : a.eval m = .map (some M)) (h : Mp w M L) (hn : L.length ≤ 1000000) (p : Bs) (hp : p.length ≤ maxLen) (e : En) (hx : a.eval x = .string (mk p)) (hv : a.eval v = .pointer (some ⟨e.blk, 0, none⟩))
    (hK : ∀ w', Mp w' M (put L p e) → w.grownBy w' (some M) → wpList Tryz.prog ops Q rest (a.put o.dst undef) w') : wpList Tryz.prog ops Q (o :: rest) a w := by
  refine wpList_plain hg fun K' hK' => ?_
  obtain ⟨w', hrun, r1, r2⟩ := h.put hn p hp e
  unfold Oper.wp
  simp [execOp, hop, hm, hx, hv, hrun, Result.andThen]
  exact hK' _ _ (hK w' r1 r2)
/-- at the operation: delete(f.nodes, p) -/
theorem wpList_del (w : World) {ops : Array Oper} {rest : List Oper} {o : Oper} {a : Act} {Q : Exit → Act → World → Prop} (hg : o.guard = none) (m x : Operand) (hop : o.op = Op.call { callee := Callee.builtin Builtin.delete, args := #[m, x], argTypes := #[92, 9] })
    (M : Nat) (L : Ents) (hm : a.eval m = .map (some M)) (h : Mp w M L) (p : Bs) (hp : p.length ≤ maxLen) (hx : a.eval x = .string (mk p))
    (hK : ∀ w', Mp w' M (del L p) → w.grownBy w' (some M) → wpList Tryz.prog ops Q rest (a.put o.dst (.tuple #[])) w') : wpList Tryz.prog ops Q (o :: rest) a w := by
  refine wpList_plain hg fun K' hK' => ?_
  obtain ⟨w', hrun, r1, r2⟩ := h.del p hp o.type
  unfold Oper.wp
  simp [execOp, hop, resolve, invoke, builtin, hm, hx, hrun, Result.andThen]
  exact hK' _ _ (hK w' r1 r2)

/-- a file system whose nodes can be read -/
structure FsAt (w : World) (A M : Nat) (L : Ents) (wt clk rm : Int) : Prop where
  fb : Fb w A M wt clk rm
  mp : Mp w M L
  nodes : ∀ e ∈ L, NodeAt w e.2
  rds : ∀ e ∈ L, Rds w e.2.dv e.2.nd.data
  srt : Srt L
  keys : ∀ e ∈ L, e.1.length ≤ 1000
/-- .. and whose blocks are its own, all of them among S -/
structure Own (w : World) (S : Nat → Prop) (A M : Nat) (L : Ents) : Prop where
  sA : S A
  sM : S M
  sB : ∀ e ∈ L, S e.2.blk
  sD : ∀ e ∈ L, ∀ g, e.2.dv.ownBlock = some g → S g
  dat : ∀ e ∈ L, Dat w e.2.dv e.2.nd.data
  apB : ∀ a ∈ L, ∀ b ∈ L, a.2.blk = b.2.blk → a = b
  apD : ∀ a ∈ L, ∀ b ∈ L, ∀ g, a.2.dv.ownBlock = some g → b.2.dv.ownBlock = some g → a = b
theorem FsAt.keep {w w' : World} {A M : Nat} {L : Ents} {wt clk rm : Int} (h : FsAt w A M L wt clk rm) (hs : w.heap.size ≤ w'.heap.size) (hA : w'.heap[A]? = w.heap[A]?) (hM : w'.heap[M]? = w.heap[M]?)
    (hB : ∀ e ∈ L, w'.heap[e.2.blk]? = w.heap[e.2.blk]?) (hD : ∀ e ∈ L, e.2.nd.data ≠ [] → ∀ g, e.2.dv.ownBlock = some g → w'.heap[g]? = w.heap[g]?) : FsAt w' A M L wt clk rm :=
  ⟨hA.trans h.fb, h.mp.kept hM, fun e he => (hB e he).trans (h.nodes e he), fun e he => (h.rds e he).kept hs (hD e he), h.srt, h.keys⟩
theorem rds_lt {w : World} {v : Value} {bs : Bs} (h : Rds w v bs) (hne : bs ≠ []) : ∀ g, v.ownBlock = some g → g < w.heap.size := by
  intro g hg
  rcases h with ⟨rfl, _⟩ | ⟨a, cap, rfl, hl, _⟩
  · cases hg
  · cases hg; exact hl hne
theorem FsAt.below {w w' : World} {A M : Nat} {L : Ents} {wt clk rm : Int} (h : FsAt w A M L wt clk rm) (hb : Below w.heap.size w w') : FsAt w' A M L wt clk rm :=
  h.keep hb.size (hb.block A h.fb.lt) (hb.block M h.mp.lt) (fun e he => hb.block _ (h.nodes e he).lt) (fun e he hne g hg => hb.block g (rds_lt (h.rds e he) hne g hg))
theorem Own.below {w w' : World} {S : Nat → Prop} {A M : Nat} {L : Ents} (h : Own w S A M L) (hb : Below w.heap.size w w') : Own w' S A M L :=
  ⟨h.sA, h.sM, h.sB, h.sD, fun e he => (h.dat e he).kept fun g hg => hb.block g ((h.dat e he).lt g hg), h.apB, h.apD⟩
/-- nothing of S has turned -/
theorem FsAt.apart {w w' : World} {S : Nat → Prop} {A M : Nat} {L : Ents} {wt clk rm : Int} (h : FsAt w A M L wt clk rm) (o : Own w S A M L) (hs : w.heap.size ≤ w'.heap.size) (hk : ∀ b, S b → w'.heap[b]? = w.heap[b]?) : FsAt w' A M L wt clk rm :=
  h.keep hs (hk A o.sA) (hk M o.sM) (fun e he => hk _ (o.sB e he)) (fun e he _ g hg => hk g (o.sD e he g hg))
theorem Own.apart {w w' : World} {S : Nat → Prop} {A M : Nat} {L : Ents} (o : Own w S A M L) (hk : ∀ b, S b → w'.heap[b]? = w.heap[b]?) : Own w' S A M L :=
  ⟨o.sA, o.sM, o.sB, o.sD, fun e he => (o.dat e he).kept fun g hg => hk g (o.sD e he g hg), o.apB, o.apD⟩
end Go.Proofs.YtabmnkddmdffkaaGreatDoor
