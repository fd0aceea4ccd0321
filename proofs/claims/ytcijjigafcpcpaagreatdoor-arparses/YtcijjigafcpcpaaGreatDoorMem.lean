/- Bytes, nodes and a file system in memory; what append does to bytes. -/
import Derived.Test.YtcijjigafcpcpaaGreatDoorWord
import Derived.Maps.OwnIn
import Derived.Maps.RangeWalk
import Derived.Deep.AppendSrc
import Derived.Lib.BufferWrite
import Derived.BigQuiet
import Derived.OneCell
namespace Go.Proofs.YtcijjigafcpcpaaGreatDoor
open Go.RowKit Go.Maps

theorem below_drewn {B : Nat} {w : World} (q : Nat) : Below B w (w.drewN q) := ⟨rfl, rfl, rfl, Nat.le_refl _, fun _ _ => rfl⟩
theorem below_grown {w w' : World} {r : Option Nat} (h : Below w.heap.size w w') : w.grownBy w' r := ⟨h.os, h.tape, h.output, h.size, fun k hk _ => h.block k hk⟩

/-- of what was there nothing has turned but blocks of S -/
structure Turn (S : Nat → Prop) (w w' : World) : Prop where
  os : w'.os = w.os
  tape : w'.tape = w.tape
  output : w'.output = w.output
  size : w.heap.size ≤ w'.heap.size
  block : ∀ k, k < w.heap.size → ¬ S k → w'.heap[k]? = w.heap[k]?
theorem Turn.refl (S : Nat → Prop) (w : World) : Turn S w w := ⟨rfl, rfl, rfl, Nat.le_refl _, fun _ _ _ => rfl⟩
theorem Turn.drew {S : Nat → Prop} {w w' : World} (h : Turn S w w') : Turn S w w'.drew := ⟨h.os, h.tape, h.output, h.size, h.block⟩
theorem Turn.drewN {S : Nat → Prop} {w w' : World} (h : Turn S w w') (n : Nat) : Turn S w (w'.drewN n) := ⟨h.os, h.tape, h.output, h.size, h.block⟩
theorem Turn.alloc {S : Nat → Prop} {w w' : World} (h : Turn S w w') (o : Obj) : Turn S w (w'.alloc o) := ⟨h.os, h.tape, h.output, Nat.le_trans h.size (by simp), fun k hk hn => (Below.heap_alloc _ _ k (Nat.lt_of_lt_of_le hk h.size)).trans (h.block k hk hn)⟩
theorem Turn.of_below {S : Nat → Prop} {w w' : World} (h : Below w.heap.size w w') : Turn S w w' := ⟨h.os, h.tape, h.output, h.size, fun k hk _ => h.block k hk⟩
theorem Turn.trans {S S' : Nat → Prop} {a b c : World} (h : Turn S a b) (k : Turn S' b c) (hS : ∀ i, S' i → S i ∨ a.heap.size ≤ i) : Turn S a c :=
  ⟨k.os.trans h.os, k.tape.trans h.tape, k.output.trans h.output, Nat.le_trans h.size k.size, fun i hi hn =>
    (k.block i (Nat.lt_of_lt_of_le hi h.size) (fun hs => by rcases hS i hs with h1 | h1; exact hn h1; omega)).trans (h.block i hi hn)⟩
theorem Turn.trans' {S : Nat → Prop} {a b c : World} (h : Turn S a b) (k : Turn S b c) : Turn S a c := h.trans k fun _ hi => .inl hi
theorem Turn.below {S : Nat → Prop} {w w' : World} (h : Turn S w w') {B : Nat} (hB : B ≤ w.heap.size) (hS : ∀ i, S i → B ≤ i) : Below B w w' :=
  ⟨h.os, h.tape, h.output, h.size, fun k hk => h.block k (by omega) fun hs => by have := hS k hs; omega⟩
theorem Turn.of_grown {S : Nat → Prop} {w w' : World} {r : Option Nat} (h : w.grownBy w' r) (hr : ∀ k, r = some k → S k) : Turn S w w' :=
  ⟨h.os, h.tape, h.output, h.size, fun k hk hn => h.block k hk fun e => hn (hr k e.symm)⟩
theorem Turn.mono {S S' : Nat → Prop} {w w' : World} (h : Turn S w w') (hS : ∀ i, S i → S' i) : Turn S' w w' := ⟨h.os, h.tape, h.output, h.size, fun k hk hn => h.block k hk fun hs => hn (hS k hs)⟩

theorem add_block (a : Addr) (j : Nat) : (a.add j).block = a.block := by unfold Addr.add; split <;> rfl
theorem add_zero (g j : Nat) : (⟨g, 0, none⟩ : Addr).add j = ⟨g, j, none⟩ := by rw [Addr.add_lit, Nat.zero_add]
/-- a slice that reads as bytes -/
def Rds (w : World) (v : Value) (bs : Bs) : Prop :=
  (v = .slice none 0 0 ∧ bs = []) ∨ ∃ a cap, v = .slice (some a) bs.length cap ∧ (bs ≠ [] → a.block < w.heap.size) ∧ ∀ j u, (Lib.byteCells bs)[j]? = some u → w.cell? (a.add j) = some u
/-- bytes in a row of their own -/
def Dat (w : World) (v : Value) (bs : Bs) : Prop :=
  (v = .slice none 0 0 ∧ bs = []) ∨ ∃ g cap cur, v = .slice (some ⟨g, 0, none⟩) bs.length cap ∧ w.heap[g]? = some (.cells cur 5 (0, 0)) ∧ bs.length ≤ cap ∧ cap ≤ cur.size ∧ cap ≤ maxLen ∧ cur.toList.take bs.length = Lib.byteCells bs
theorem Dat.nil (w : World) : Dat w (.slice none 0 0) [] := .inl ⟨rfl, rfl⟩
theorem Dat.len {w : World} {v : Value} {bs : Bs} (h : Dat w v bs) : ∃ a cap, v = .slice a bs.length cap := by
  rcases h with ⟨rfl, rfl⟩ | ⟨g, cap, cur, rfl, _⟩
  · exact ⟨_, _, rfl⟩
  · exact ⟨_, _, rfl⟩
theorem Rds.len {w : World} {v : Value} {bs : Bs} (h : Rds w v bs) : ∃ a cap, v = .slice a bs.length cap := by
  rcases h with ⟨rfl, rfl⟩ | ⟨g, cap, rfl, _⟩
  · exact ⟨_, _, rfl⟩
  · exact ⟨_, _, rfl⟩
theorem Dat.rds {w : World} {v : Value} {bs : Bs} (h : Dat w v bs) : Rds w v bs := by
  rcases h with ⟨rfl, rfl⟩ | ⟨g, cap, cur, rfl, hg, h1, h2, h3, h4⟩
  · exact .inl ⟨rfl, rfl⟩
  · refine .inr ⟨_, _, rfl, fun _ => lt_of_block hg, fun j u hj => ?_⟩
    have hjl : j < bs.length := by
      have := (List.getElem?_eq_some_iff.1 hj).1
      rwa [Lib.byteCells_length] at this
    rw [← h4, List.getElem?_take_of_lt hjl] at hj
    rw [add_zero, Lib.cell_of_heap hg]
    simpa using hj
theorem Dat.kept {w w' : World} {v : Value} {bs : Bs} (h : Dat w v bs) (hk : ∀ g, v.ownBlock = some g → w'.heap[g]? = w.heap[g]?) : Dat w' v bs := by
  rcases h with h | ⟨g, cap, cur, rfl, hg, r⟩
  · exact .inl h
  · exact .inr ⟨g, cap, cur, rfl, (hk g rfl).trans hg, r⟩
theorem Dat.lt {w : World} {v : Value} {bs : Bs} (h : Dat w v bs) : ∀ g, v.ownBlock = some g → g < w.heap.size := by
  intro g hg
  rcases h with ⟨rfl, _⟩ | ⟨g', cap, cur, rfl, hb, r⟩
  · cases hg
  · cases hg; exact lt_of_block hb
theorem Dat.elem {w : World} {v : Value} {bs : Bs} (h : Dat w v bs) : ∀ g, v.ownBlock = some g → ∃ cur, w.heap[g]? = some (.cells cur 5 (0, 0)) := by
  intro g hg
  rcases h with ⟨rfl, _⟩ | ⟨g', cap, cur, rfl, hb, r⟩
  · cases hg
  · cases hg; exact ⟨_, hb⟩
theorem cells_ne {bs : Bs} {j : Nat} {u : Value} (h : (Lib.byteCells bs)[j]? = some u) : bs ≠ [] := by
  intro e
  subst e
  have := (List.getElem?_eq_some_iff.1 h).1
  rw [Lib.byteCells_length] at this
  exact absurd this (Nat.not_lt_zero _)
theorem Rds.below {w w' : World} {v : Value} {bs : Bs} (h : Rds w v bs) (hb : Below w.heap.size w w') : Rds w' v bs := by
  rcases h with h | ⟨a, cap, rfl, hl, hc⟩
  · exact .inl h
  · exact .inr ⟨a, cap, rfl, fun h => Nat.lt_of_lt_of_le (hl h) hb.size, fun j u hj => (hb.cell (p := a.add j) (by rw [add_block]; exact hl (cells_ne hj))).trans (hc j u hj)⟩
theorem Rds.kept {w w' : World} {v : Value} {bs : Bs} (h : Rds w v bs) (hs : w.heap.size ≤ w'.heap.size) (hk : bs ≠ [] → ∀ g, v.ownBlock = some g → w'.heap[g]? = w.heap[g]?) : Rds w' v bs := by
  rcases h with h | ⟨a, cap, rfl, hl, hc⟩
  · exact .inl h
  · exact .inr ⟨a, cap, rfl, fun h => Nat.lt_of_lt_of_le (hl h) hs, fun j u hj => (World.cell?_of_block (a := a.add j) (by rw [add_block]; exact hk (cells_ne hj) a.block rfl)).trans (hc j u hj)⟩
theorem Rds.src {w : World} {v : Value} {bs : Bs} (h : Rds w v bs) : Src Tryz.prog 1 26 v bs.length (Lib.byteCells bs) w := by
  rcases h with ⟨rfl, rfl⟩ | ⟨a, cap, rfl, _, hc⟩
  · exact Src.ofNil w Tryz.underlying26 0
  · exact Src.ofSlice w Tryz.underlying26 a bs.length cap (Lib.byteCells bs) (by rw [Lib.byteCells_length, Nat.mul_one]) hc (Lib.byteCells_one bs)

theorem info5 : (Tryz.prog.info? 5).map (fun i : TypeInfo => (i.zero, i.size, i.bytes)) = some (some (.int .u8 0), 1, 1) := by kernel_rfl

/-- a new row of bytes -/
theorem dat_new (w : World) (xs : List Value) (bs : Bs) (z : Array Value) (cap : Nat) (hx : xs = Lib.byteCells bs) (hz : z.size = 1) (h1 : bs.length ≤ cap) (h2 : cap ≤ maxLen) :
    Dat (w.drew.alloc (.cells (xs.toArray ++ Builtin.zeroCells z (cap - bs.length)) 5)) (.slice (some ⟨w.heap.size, 0, none⟩) bs.length cap) bs := by
  have hl : xs.length = bs.length := by rw [hx, Lib.byteCells_length]
  refine .inr ⟨w.heap.size, cap, _, rfl, heap_alloc_new w.drew _, h1, ?_, h2, ?_⟩
  · simp only [Array.size_append, List.size_toArray, size_zeroCells, hz, hl]
    omega
  · rw [Array.toList_append, ← hl, List.take_left' (by simp)]
    exact hx
set_option maxHeartbeats 1000000 in
/-- append(v, x...), v's bytes in a row of their own -/
theorem append_dat {v x : Value} {xs ys : Bs} (ty : TypeId) (w : World) (hv : Dat w v xs) (hx : Rds w x ys) (hsz : xs.length + ys.length ≤ 1099511627776) :
    ∃ v' w', (Builtin.append_ #[26, 26] ty #[v, x]).run Tryz.prog w = .ok v' w' ∧ Dat w' v' (xs ++ ys) ∧ Dat w' v xs ∧ w.grownBy w' v.ownBlock ∧ (v'.ownBlock = v.ownBlock ∨ v'.ownBlock = some w.heap.size) := by
  obtain ⟨i, hi, hz0, hz1, hz2⟩ := info_parts info5
  have hs := hx.src
  have hbl := Lib.byteCells_length ys
  have hxl := Lib.byteCells_length xs
  have hml : xs.length + ys.length ≤ maxLen := by unfold maxLen; omega
  have e3 : Lib.byteCells (xs ++ ys) = Lib.byteCells xs ++ Lib.byteCells ys := Lib.byteCells_append xs ys
  have hlen : (xs ++ ys).length = xs.length + ys.length := List.length_append
  rcases hv with ⟨rfl, rfl⟩ | ⟨g, cap, cur, rfl, hg, h1, h2, h3, h4⟩
  · by_cases hy : ys = []
    · subst hy
      refine ⟨.slice none 0 0, w, ?_, .inl ⟨rfl, rfl⟩, .inl ⟨rfl, rfl⟩, ⟨rfl, rfl, rfl, Nat.le_refl _, fun _ _ _ => rfl⟩, .inl rfl⟩
      rcases hx with ⟨rfl, _⟩ | ⟨a, c, rfl, _, _⟩
      · simp [Builtin.append_, run_underlying Tryz.underlying26, sizeOf, typeInfo, hi, Builtin.lenOf, Builtin.firstCells]
      · simp [Builtin.append_, run_underlying Tryz.underlying26, sizeOf, typeInfo, hi, Builtin.lenOf, Builtin.firstCells, loadCells, loadCellsFrom]
    · have hpos : 0 < ys.length := List.length_pos_iff.2 hy
      have hr := run_append_grow_src w 26 26 ty 5 i (.int .u8 0) Tryz.underlying26 hi hz0 none 0 0 [] (run_firstCells_none w.drew i.size 0 0 0) x ys.length (Lib.byteCells ys) (by rw [hz1]; exact hs) (by omega) (by omega)
        (by rw [hz2]; exact growslice_fits (by omega) (by omega))
      simp only [List.nil_append, Nat.zero_add] at hr
      refine ⟨_, _, hr, ?_, .inl ⟨rfl, rfl⟩, ⟨rfl, rfl, rfl, by simp, fun k hk _ => Lib.alloc_old w.drew _ k hk⟩, .inr rfl⟩
      exact dat_new w _ ys _ _ rfl rfl (grownCap_ge _ _ _ _) (grownCap_le_maxLen _ _ _ _ (by omega))
  · by_cases hroom : xs.length + ys.length ≤ cap
    · rcases hx with ⟨rfl, rfl⟩ | ⟨a, c, rfl, hal, hc⟩
      · refine ⟨_, _, run_append_room_src w 26 26 ty 5 i Tryz.underlying26 hi g 0 xs.length cap (.slice none 0 0) 0 [] (by rw [hz1]; exact hs) (by simpa using hroom) (by simp) (by simp), ?_, ?_, ⟨rfl, rfl, rfl, Nat.le_refl _, fun _ _ _ => rfl⟩, .inl rfl⟩
        · rw [List.append_nil]
          exact .inr ⟨g, cap, cur, rfl, hg, h1, h2, h3, h4⟩
        · exact .inr ⟨g, cap, cur, rfl, hg, h1, h2, h3, h4⟩
      · have hr := run_append_room (P := Tryz.prog) w 26 ty 5 i Tryz.underlying26 hi g xs.length cap cur hg a ys.length c (Lib.byteCells ys) (by rw [hbl, hz1, Nat.mul_one]) hc (Lib.byteCells_one ys) hroom (by rw [hbl, hz1]; omega)
        rw [hz1, Nat.mul_one, h4] at hr
        have hcs : (Lib.byteCells xs ++ Lib.byteCells ys ++ cur.toList.drop (xs.length + (Lib.byteCells ys).length)).toArray.size = cur.size := by
          simp only [List.size_toArray, List.length_append, hxl, hbl, List.length_drop, Array.length_toList]
          omega
        refine ⟨_, _, hr, ?_, ?_, ⟨rfl, rfl, rfl, by simp, fun k _ hk => setRow_other w g k _ (fun e => hk (by simp [Value.ownBlock, e]))⟩, .inl rfl⟩
        · refine .inr ⟨g, cap, _, by rw [hlen], setRow_heap w g cur _ 5 _ hg, by omega, by rw [hcs]; exact h2, h3, ?_⟩
          rw [e3, List.take_left' (by rw [List.length_append, hxl, hbl, hlen])]
        · refine .inr ⟨g, cap, _, rfl, setRow_heap w g cur _ 5 _ hg, h1, by rw [hcs]; exact h2, h3, ?_⟩
          rw [List.append_assoc, List.take_left' hxl]
    · have hold : (Builtin.firstCells i.size xs.length (.slice (some ⟨g, 0, none⟩) xs.length cap)).run Tryz.prog w.drew = .ok (Lib.byteCells xs).toArray w.drew := by
        refine run_firstCells_some w.drew i.size xs.length ⟨g, 0, none⟩ xs.length cap (Lib.byteCells xs) (by rw [hxl, hz1, Nat.mul_one]) fun j u hj => ?_
        have hD : Dat w (.slice (some ⟨g, 0, none⟩) xs.length cap) xs := .inr ⟨g, cap, cur, rfl, hg, h1, h2, h3, h4⟩
        rcases hD.rds with ⟨e, _⟩ | ⟨a', cap', e, _, hcc⟩
        · cases e
        · cases e
          simpa using hcc j u hj
      have hr := run_append_grow_src w 26 26 ty 5 i (.int .u8 0) Tryz.underlying26 hi hz0 (some ⟨g, 0, none⟩) xs.length cap (Lib.byteCells xs) hold x ys.length (Lib.byteCells ys) (by rw [hz1]; exact hs) (by omega) (by omega)
        (by rw [hz2]; exact growslice_fits (by omega) (by omega))
      refine ⟨_, _, hr, ?_, .inr ⟨g, cap, cur, rfl, (Lib.alloc_old w.drew _ g (lt_of_block hg)).trans hg, h1, h2, h3, h4⟩, ⟨rfl, rfl, rfl, by simp, fun k hk _ => Lib.alloc_old w.drew _ k hk⟩, .inr rfl⟩
      have := dat_new w _ (xs ++ ys) (Value.int .u8 0).cells (grownCap w (xs.length + ys.length) cap 5) e3.symm rfl (by rw [hlen]; exact grownCap_ge _ _ _ _) (grownCap_le_maxLen _ _ _ _ hml)
      rw [hlen] at this
      exact this
/-- append(v, x...) at the operation -/
theorem wpList_append_dat {v x : Value} {xs ys : Bs} (w : World) {ops : Array Oper} {rest : List Oper} {o : Oper} {a : Act} {Q : Exit → Act → World → Prop} (hgd : o.guard = none) (s y : Operand)
    (ho : o.op = .call { callee := .builtin .append, args := #[s, y], argTypes := #[26, 26] }) (hs : a.eval s = v) (hy : a.eval y = x)
    (hv : Dat w v xs) (hx : Rds w x ys) (hsz : xs.length + ys.length ≤ 1099511627776)
    (h : ∀ v' w', Dat w' v' (xs ++ ys) → Dat w' v xs → w.grownBy w' v.ownBlock → (v'.ownBlock = v.ownBlock ∨ v'.ownBlock = some w.heap.size) → wpList Tryz.prog ops Q rest (a.put o.dst v') w') :
    wpList Tryz.prog ops Q (o :: rest) a w := by
  refine wpList_plain hgd fun K hK => ?_
  obtain ⟨v', w', hr, h2, h3, h4, h5⟩ := append_dat o.type w hv hx hsz
  unfold Oper.wp execOp
  simp only [ho, resolve, invoke, builtin, Sem.run_bind, Sem.run_pure, Result.andThen_ok, List.map_toArray, List.map_cons, List.map_nil, hs, hy, hr]
  exact hK _ _ (h v' w' h2 h3 h4 h5)
end Go.Proofs.YtcijjigafcpcpaaGreatDoor
