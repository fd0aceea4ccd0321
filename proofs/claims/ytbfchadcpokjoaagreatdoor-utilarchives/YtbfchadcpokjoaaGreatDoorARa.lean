/- Texts as lists of bytes. Bytes, nodes and a file system in memory; what append does to bytes. Archives as lists of bytes; members in memory. The contracts of ar.even, ar.long, ar.length. append of a text to bytes; the contracts of ar.tableOf, ar.appendData. -/
import Derived.Test.YtbfchadcpokjoaaGreatDoorProg
import Derived.WalkKit
import Derived.WalkSpells
import Derived.WalkLawsBesides
import Derived.WalkMore
import Derived.Lib.Strings
import Derived.Lib.IndexBytes
import Derived.Maps.OwnIn
import Derived.Maps.RangeWalk
import Derived.Deep.AppendSrc
import Derived.Lib.BufferWrite
import Derived.BigQuiet
import Derived.OneCell
import Derived.Lib.ItoaNum
import Derived.Lib.AppendStr
namespace Go.Proofs.YtbfchadcpokjoaaGreatDoor.Arc
open Go.RowKit
set_option maxRecDepth 100000

abbrev Bs := List UInt8
theorem hide' {p : Prop} (h : p) : Hid p := h
def tl (x : ByteArray) : List UInt8 := x.data.toList
abbrev mk (l : List UInt8) : ByteArray := ⟨l.toArray⟩
theorem tl_len (s : ByteArray) : (tl s).length = s.size := (Lib.size_eq s).symm
theorem getD_at (s : ByteArray) (k : Nat) (h : k < s.size) : (tl s).getD k 0 = s[k] := by
  unfold tl
  rw [List.getD_eq_getElem?_getD, List.getElem?_eq_getElem (by simpa using h)]; rfl
theorem tl_inj (a b : ByteArray) (h : tl a = tl b) : a = b := by
  obtain ⟨⟨a⟩⟩ := a
  obtain ⟨⟨b⟩⟩ := b
  exact congrArg (fun l : List UInt8 => ByteArray.mk ⟨l⟩) h
theorem tl_mk (l : List UInt8) : tl (mk l) = l := by simp [tl]
theorem mk_tl (s : ByteArray) : mk (tl s) = s := tl_inj _ _ (tl_mk _)
theorem mk_size (l : List UInt8) : (mk l).size = l.length := by rw [← tl_len, tl_mk]
theorem ext_mk (s : ByteArray) (a b : Nat) : s.extract a b = mk (((tl s).drop a).take (b - a)) := tl_inj _ _ (by rw [tl_mk]; exact Lib.extract_data s a b)
theorem ext_drop (s : ByteArray) (a : Nat) : s.extract a s.size = mk ((tl s).drop a) := by
  rw [ext_mk, List.take_of_length_le (by rw [List.length_drop, tl_len]; omega)]
theorem ext_take (s : ByteArray) (b : Nat) : s.extract 0 b = mk ((tl s).take b) := by rw [ext_mk]; simp

theorem beq_no (a c : UInt8) (cn : Nat) (hcn : c.toNat = cn) (h : ¬ a = c) : ((a.toNat : Int) == (cn : Int)) = false := beq_eq_false_iff_ne.2 fun e => h (UInt8.toNat_inj.1 (by omega))
theorem beq_yes (a c : UInt8) (cn : Nat) (hcn : c.toNat = cn) (h : a = c) : ((a.toNat : Int) == (cn : Int)) = true := by rw [h, hcn]; simp
theorem ret_int {a b : Int} (h : a = b) : Ending.returned (.int .i64 a) = .returned (.int .i64 b) := by rw [h]

theorem ret_str {a b : ByteArray} (h : a = b) : Ending.returned (.string a) = .returned (.string b) := by rw [h]
theorem ret_bool {a b : Bool} (h : a = b) : Ending.returned (.bool a) = .returned (.bool b) := by rw [h]
end Go.Proofs.YtbfchadcpokjoaaGreatDoor.Arc
namespace Go.Proofs.YtbfchadcpokjoaaGreatDoor.Arc
open Go.RowKit Go.Maps
set_option maxRecDepth 100000

theorem below_drewn {B : Nat} {w : World} (q : Nat) : Below B w (w.drewN q) := ⟨rfl, rfl, rfl, Nat.le_refl _, fun _ _ => rfl⟩
theorem below_grown {w w' : World} {r : Option Nat} (h : Below w.heap.size w w') : w.grownBy w' r := ⟨h.os, h.tape, h.output, h.size, fun k hk _ => h.block k hk⟩

/-- of what was there nothing has turned but blocks of S -/
structure Turn (S : Nat → Prop) (w w' : World) : Prop where
  os : w'.os = w.os
  tape : w'.tape = w.tape
  output : w'.output = w.output
  size : w.heap.size ≤ w'.heap.size
  block : ∀ k, k < w.heap.size → ¬ S k → w'.heap[k]? = w.heap[k]?
theorem Turn.refl (S : Nat → Prop) (w : World) : Turn S w w := ⟨rfl, rfl, rfl, Nat.le_refl _, fun _ _ _ => rfl⟩
theorem Turn.drew {S : Nat → Prop} {w w' : World} (h : Turn S w w') : Turn S w w'.drew := ⟨h.os, h.tape, h.output, h.size, h.block⟩
theorem Turn.drewN {S : Nat → Prop} {w w' : World} (h : Turn S w w') (n : Nat) : Turn S w (w'.drewN n) := ⟨h.os, h.tape, h.output, h.size, h.block⟩
theorem Turn.alloc {S : Nat → Prop} {w w' : World} (h : Turn S w w') (o : Obj) : Turn S w (w'.alloc o) := ⟨h.os, h.tape, h.output, Nat.le_trans h.size (by simp), fun k hk hn => (Below.heap_alloc _ _ k (Nat.lt_of_lt_of_le hk h.size)).trans (h.block k hk hn)⟩
theorem Turn.of_below {S : Nat → Prop} {w w' : World} (h : Below w.heap.size w w') : Turn S w w' := ⟨h.os, h.tape, h.output, h.size, fun k hk _ => h.block k hk⟩
theorem Turn.trans {S S' : Nat → Prop} {a b c : World} (h : Turn S a b) (k : Turn S' b c) (hS : ∀ i, S' i → S i ∨ a.heap.size ≤ i) : Turn S a c :=
  ⟨k.os.trans h.os, k.tape.trans h.tape, k.output.trans h.output, Nat.le_trans h.size k.size, fun i hi hn =>
    (k.block i (Nat.lt_of_lt_of_le hi h.size) (fun hs => by rcases hS i hs with h1 | h1; exact hn h1; omega)).trans (h.block i hi hn)⟩
theorem Turn.trans' {S : Nat → Prop} {a b c : World} (h : Turn S a b) (k : Turn S b c) : Turn S a c := h.trans k fun _ hi => .inl hi
theorem Turn.below {S : Nat → Prop} {w w' : World} (h : Turn S w w') {B : Nat} (hB : B ≤ w.heap.size) (hS : ∀ i, S i → B ≤ i) : Below B w w' :=
  ⟨h.os, h.tape, h.output, h.size, fun k hk => h.block k (by omega) fun hs => by have := hS k hs; omega⟩
theorem Turn.of_grown {S : Nat → Prop} {w w' : World} {r : Option Nat} (h : w.grownBy w' r) (hr : ∀ k, r = some k → S k) : Turn S w w' :=
  ⟨h.os, h.tape, h.output, h.size, fun k hk hn => h.block k hk fun e => hn (hr k e.symm)⟩
theorem Turn.mono {S S' : Nat → Prop} {w w' : World} (h : Turn S w w') (hS : ∀ i, S i → S' i) : Turn S' w w' := ⟨h.os, h.tape, h.output, h.size, fun k hk hn => h.block k hk fun hs => hn (hS k hs)⟩

theorem add_block (a : Addr) (j : Nat) : (a.add j).block = a.block := by unfold Addr.add; split <;> rfl
theorem add_zero (g j : Nat) : (⟨g, 0, none⟩ : Addr).add j = ⟨g, j, none⟩ := by rw [Addr.add_lit, Nat.zero_add]
/-- a slice that reads as bytes -/
def Rds (w : World) (v : Value) (bs : Bs) : Prop :=
  (v = .slice none 0 0 ∧ bs = []) ∨ ∃ a cap, v = .slice (some a) bs.length cap ∧ (bs ≠ [] → a.block < w.heap.size) ∧ ∀ j u, (Lib.byteCells bs)[j]? = some u → w.cell? (a.add j) = some u
/-- bytes in a row of their own -/
def Dat (w : World) (v : Value) (bs : Bs) : Prop :=
  (v = .slice none 0 0 ∧ bs = []) ∨ ∃ g cap cur, v = .slice (some ⟨g, 0, none⟩) bs.length cap ∧ w.heap[g]? = some (.cells cur 5 (0, 0)) ∧ bs.length ≤ cap ∧ cap ≤ cur.size ∧ cap ≤ maxLen ∧ cur.toList.take bs.length = Lib.byteCells bs
theorem Dat.nil (w : World) : Dat w (.slice none 0 0) [] := .inl ⟨rfl, rfl⟩
theorem Dat.len {w : World} {v : Value} {bs : Bs} (h : Dat w v bs) : ∃ a cap, v = .slice a bs.length cap := by
  rcases h with ⟨rfl, rfl⟩ | ⟨g, cap, cur, rfl, _⟩
  · exact ⟨_, _, rfl⟩
  · exact ⟨_, _, rfl⟩
theorem Rds.len {w : World} {v : Value} {bs : Bs} (h : Rds w v bs) : ∃ a cap, v = .slice a bs.length cap := by
  rcases h with ⟨rfl, rfl⟩ | ⟨g, cap, rfl, _⟩
  · exact ⟨_, _, rfl⟩
  · exact ⟨_, _, rfl⟩
theorem Dat.rds {w : World} {v : Value} {bs : Bs} (h : Dat w v bs) : Rds w v bs := by
  rcases h with ⟨rfl, rfl⟩ | ⟨g, cap, cur, rfl, hg, h1, h2, h3, h4⟩
  · exact .inl ⟨rfl, rfl⟩
  · refine .inr ⟨_, _, rfl, fun _ => lt_of_block hg, fun j u hj => ?_⟩
    have hjl : j < bs.length := by
      have := (List.getElem?_eq_some_iff.1 hj).1
      rwa [Lib.byteCells_length] at this
    rw [← h4, List.getElem?_take_of_lt hjl] at hj
    rw [add_zero, Lib.cell_of_heap hg]
    simpa using hj
theorem Dat.kept {w w' : World} {v : Value} {bs : Bs} (h : Dat w v bs) (hk : ∀ g, v.ownBlock = some g → w'.heap[g]? = w.heap[g]?) : Dat w' v bs := by
  rcases h with h | ⟨g, cap, cur, rfl, hg, r⟩
  · exact .inl h
  · exact .inr ⟨g, cap, cur, rfl, (hk g rfl).trans hg, r⟩
theorem Dat.lt {w : World} {v : Value} {bs : Bs} (h : Dat w v bs) : ∀ g, v.ownBlock = some g → g < w.heap.size := by
  intro g hg
  rcases h with ⟨rfl, _⟩ | ⟨g', cap, cur, rfl, hb, r⟩
  · cases hg
  · cases hg; exact lt_of_block hb
theorem Dat.elem {w : World} {v : Value} {bs : Bs} (h : Dat w v bs) : ∀ g, v.ownBlock = some g → ∃ cur, w.heap[g]? = some (.cells cur 5 (0, 0)) := by
  intro g hg
  rcases h with ⟨rfl, _⟩ | ⟨g', cap, cur, rfl, hb, r⟩
  · cases hg
  · cases hg; exact ⟨_, hb⟩
theorem cells_ne {bs : Bs} {j : Nat} {u : Value} (h : (Lib.byteCells bs)[j]? = some u) : bs ≠ [] := by
  intro e
  subst e
  have := (List.getElem?_eq_some_iff.1 h).1
  rw [Lib.byteCells_length] at this
  exact absurd this (Nat.not_lt_zero _)
theorem Rds.below {w w' : World} {v : Value} {bs : Bs} (h : Rds w v bs) (hb : Below w.heap.size w w') : Rds w' v bs := by
  rcases h with h | ⟨a, cap, rfl, hl, hc⟩
  · exact .inl h
  · exact .inr ⟨a, cap, rfl, fun h => Nat.lt_of_lt_of_le (hl h) hb.size, fun j u hj => (hb.cell (p := a.add j) (by rw [add_block]; exact hl (cells_ne hj))).trans (hc j u hj)⟩
theorem Rds.kept {w w' : World} {v : Value} {bs : Bs} (h : Rds w v bs) (hs : w.heap.size ≤ w'.heap.size) (hk : bs ≠ [] → ∀ g, v.ownBlock = some g → w'.heap[g]? = w.heap[g]?) : Rds w' v bs := by
  rcases h with h | ⟨a, cap, rfl, hl, hc⟩
  · exact .inl h
  · exact .inr ⟨a, cap, rfl, fun h => Nat.lt_of_lt_of_le (hl h) hs, fun j u hj => (World.cell?_of_block (a := a.add j) (by rw [add_block]; exact hk (cells_ne hj) a.block rfl)).trans (hc j u hj)⟩
theorem Rds.src {w : World} {v : Value} {bs : Bs} (h : Rds w v bs) : Src Tryz.prog 1 33 v bs.length (Lib.byteCells bs) w := by
  rcases h with ⟨rfl, rfl⟩ | ⟨a, cap, rfl, _, hc⟩
  · exact Src.ofNil w Tryz.underlying33 0
  · exact Src.ofSlice w Tryz.underlying33 a bs.length cap (Lib.byteCells bs) (by rw [Lib.byteCells_length, Nat.mul_one]) hc (Lib.byteCells_one bs)

theorem info5 : (Tryz.prog.info? 5).map (fun i : TypeInfo => (i.zero, i.size, i.bytes)) = some (some (.int .u8 0), 1, 1) := by kernel_rfl

/-- a new row of bytes -/
theorem dat_new (w : World) (xs : List Value) (bs : Bs) (z : Array Value) (cap : Nat) (hx : xs = Lib.byteCells bs) (hz : z.size = 1) (h1 : bs.length ≤ cap) (h2 : cap ≤ maxLen) :
    Dat (w.drew.alloc (.cells (xs.toArray ++ Builtin.zeroCells z (cap - bs.length)) 5)) (.slice (some ⟨w.heap.size, 0, none⟩) bs.length cap) bs := by
  have hl : xs.length = bs.length := by rw [hx, Lib.byteCells_length]
  refine .inr ⟨w.heap.size, cap, _, rfl, heap_alloc_new w.drew _, h1, ?_, h2, ?_⟩
  · simp only [Array.size_append, List.size_toArray, size_zeroCells, hz, hl]
    omega
  · rw [Array.toList_append, ← hl, List.take_left' (by simp)]
    exact hx
set_option maxHeartbeats 1000000 in
/-- append(v, x...), v's bytes in a row of their own -/
theorem append_dat {v x : Value} {xs ys : Bs} (ty : TypeId) (w : World) (hv : Dat w v xs) (hx : Rds w x ys) (hsz : xs.length + ys.length ≤ 1099511627776) :
    ∃ v' w', (Builtin.append_ #[33, 33] ty #[v, x]).run Tryz.prog w = .ok v' w' ∧ Dat w' v' (xs ++ ys) ∧ Dat w' v xs ∧ w.grownBy w' v.ownBlock ∧ (v'.ownBlock = v.ownBlock ∨ v'.ownBlock = some w.heap.size) := by
  obtain ⟨i, hi, hz0, hz1, hz2⟩ := info_parts info5
  have hs := hx.src
  have hbl := Lib.byteCells_length ys
  have hxl := Lib.byteCells_length xs
  have hml : xs.length + ys.length ≤ maxLen := by unfold maxLen; omega
  have e3 : Lib.byteCells (xs ++ ys) = Lib.byteCells xs ++ Lib.byteCells ys := Lib.byteCells_append xs ys
  have hlen : (xs ++ ys).length = xs.length + ys.length := List.length_append
  rcases hv with ⟨rfl, rfl⟩ | ⟨g, cap, cur, rfl, hg, h1, h2, h3, h4⟩
  · by_cases hy : ys = []
    · subst hy
      refine ⟨.slice none 0 0, w, ?_, .inl ⟨rfl, rfl⟩, .inl ⟨rfl, rfl⟩, ⟨rfl, rfl, rfl, Nat.le_refl _, fun _ _ _ => rfl⟩, .inl rfl⟩
      rcases hx with ⟨rfl, _⟩ | ⟨a, c, rfl, _, _⟩
      · simp [Builtin.append_, run_underlying Tryz.underlying33, sizeOf, typeInfo, hi, Builtin.lenOf, Builtin.firstCells]
      · simp [Builtin.append_, run_underlying Tryz.underlying33, sizeOf, typeInfo, hi, Builtin.lenOf, Builtin.firstCells, loadCells, loadCellsFrom]
    · have hpos : 0 < ys.length := List.length_pos_iff.2 hy
      have hr := run_append_grow_src w 33 33 ty 5 i (.int .u8 0) Tryz.underlying33 hi hz0 none 0 0 [] (run_firstCells_none w.drew i.size 0 0 0) x ys.length (Lib.byteCells ys) (by rw [hz1]; exact hs) (by omega) (by omega)
        (by rw [hz2]; exact growslice_fits (by omega) (by omega))
      simp only [List.nil_append, Nat.zero_add] at hr
      refine ⟨_, _, hr, ?_, .inl ⟨rfl, rfl⟩, ⟨rfl, rfl, rfl, by simp, fun k hk _ => Lib.alloc_old w.drew _ k hk⟩, .inr rfl⟩
      exact dat_new w _ ys _ _ rfl rfl (grownCap_ge _ _ _ _) (grownCap_le_maxLen _ _ _ _ (by omega))
  · by_cases hroom : xs.length + ys.length ≤ cap
    · rcases hx with ⟨rfl, rfl⟩ | ⟨a, c, rfl, hal, hc⟩
      · refine ⟨_, _, run_append_room_src w 33 33 ty 5 i Tryz.underlying33 hi g 0 xs.length cap (.slice none 0 0) 0 [] (by rw [hz1]; exact hs) (by simpa using hroom) (by simp) (by simp), ?_, ?_, ⟨rfl, rfl, rfl, Nat.le_refl _, fun _ _ _ => rfl⟩, .inl rfl⟩
        · rw [List.append_nil]
          exact .inr ⟨g, cap, cur, rfl, hg, h1, h2, h3, h4⟩
        · exact .inr ⟨g, cap, cur, rfl, hg, h1, h2, h3, h4⟩
      · have hr := run_append_room (P := Tryz.prog) w 33 ty 5 i Tryz.underlying33 hi g xs.length cap cur hg a ys.length c (Lib.byteCells ys) (by rw [hbl, hz1, Nat.mul_one]) hc (Lib.byteCells_one ys) hroom (by rw [hbl, hz1]; omega)
        rw [hz1, Nat.mul_one, h4] at hr
        have hcs : (Lib.byteCells xs ++ Lib.byteCells ys ++ cur.toList.drop (xs.length + (Lib.byteCells ys).length)).toArray.size = cur.size := by
          simp only [List.size_toArray, List.length_append, hxl, hbl, List.length_drop, Array.length_toList]
          omega
        refine ⟨_, _, hr, ?_, ?_, ⟨rfl, rfl, rfl, by simp, fun k _ hk => setRow_other w g k _ (fun e => hk (by simp [Value.ownBlock, e]))⟩, .inl rfl⟩
        · refine .inr ⟨g, cap, _, by rw [hlen], setRow_heap w g cur _ 5 _ hg, by omega, by rw [hcs]; exact h2, h3, ?_⟩
          rw [e3, List.take_left' (by rw [List.length_append, hxl, hbl, hlen])]
        · refine .inr ⟨g, cap, _, rfl, setRow_heap w g cur _ 5 _ hg, h1, by rw [hcs]; exact h2, h3, ?_⟩
          rw [List.append_assoc, List.take_left' hxl]
    · have hold : (Builtin.firstCells i.size xs.length (.slice (some ⟨g, 0, none⟩) xs.length cap)).run Tryz.prog w.drew = .ok (Lib.byteCells xs).toArray w.drew := by
        refine run_firstCells_some w.drew i.size xs.length ⟨g, 0, none⟩ xs.length cap (Lib.byteCells xs) (by rw [hxl, hz1, Nat.mul_one]) fun j u hj => ?_
        have hD : Dat w (.slice (some ⟨g, 0, none⟩) xs.length cap) xs := .inr ⟨g, cap, cur, rfl, hg, h1, h2, h3, h4⟩
        rcases hD.rds with ⟨e, _⟩ | ⟨a', cap', e, _, hcc⟩
        · cases e
        · cases e
          simpa using hcc j u hj
      have hr := run_append_grow_src w 33 33 ty 5 i (.int .u8 0) Tryz.underlying33 hi hz0 (some ⟨g, 0, none⟩) xs.length cap (Lib.byteCells xs) hold x ys.length (Lib.byteCells ys) (by rw [hz1]; exact hs) (by omega) (by omega)
        (by rw [hz2]; exact growslice_fits (by omega) (by omega))
      refine ⟨_, _, hr, ?_, .inr ⟨g, cap, cur, rfl, (Lib.alloc_old w.drew _ g (lt_of_block hg)).trans hg, h1, h2, h3, h4⟩, ⟨rfl, rfl, rfl, by simp, fun k hk _ => Lib.alloc_old w.drew _ k hk⟩, .inr rfl⟩
      have := dat_new w _ (xs ++ ys) (Value.int .u8 0).cells (grownCap w (xs.length + ys.length) cap 5) e3.symm rfl (by rw [hlen]; exact grownCap_ge _ _ _ _) (grownCap_le_maxLen _ _ _ _ hml)
      rw [hlen] at this
      exact this
/-- append(v, x...) at the operation -/
theorem wpList_append_dat {v x : Value} {xs ys : Bs} (w : World) {ops : Array Oper} {rest : List Oper} {o : Oper} {a : Act} {Q : Exit → Act → World → Prop} (hgd : o.guard = none) (s y : Operand)
    (ho : o.op = .call { callee := .builtin .append, args := #[s, y], argTypes := #[33, 33] }) (hs : a.eval s = v) (hy : a.eval y = x)
    (hv : Dat w v xs) (hx : Rds w x ys) (hsz : xs.length + ys.length ≤ 1099511627776)
    (h : ∀ v' w', Dat w' v' (xs ++ ys) → Dat w' v xs → w.grownBy w' v.ownBlock → (v'.ownBlock = v.ownBlock ∨ v'.ownBlock = some w.heap.size) → wpList Tryz.prog ops Q rest (a.put o.dst v') w') :
    wpList Tryz.prog ops Q (o :: rest) a w := by
  refine wpList_plain hgd fun K hK => ?_
  obtain ⟨v', w', hr, h2, h3, h4, h5⟩ := append_dat o.type w hv hx hsz
  unfold Oper.wp execOp
  simp only [ho, resolve, invoke, builtin, Sem.run_bind, Sem.run_pure, Result.andThen_ok, List.map_toArray, List.map_cons, List.map_nil, hs, hy, hr]
  exact hK _ _ (h v' w' h2 h3 h4 h5)
end Go.Proofs.YtbfchadcpokjoaaGreatDoor.Arc
namespace Go.Proofs.YtbfchadcpokjoaaGreatDoor.Arc
open Go.RowKit Go.Maps
set_option maxRecDepth 100000

theorem alloc_new (w : World) (o : Obj) : (w.alloc o).heap[w.heap.size]? = some o := by show (w.heap.push o)[w.heap.size]? = some o; simp
theorem size_alloc' (w : World) (o : Obj) : (w.alloc o).heap.size = w.heap.size + 1 := by simp
theorem mk_toList (p : Bs) : (mk p).toList = p := by rw [Lib.toList_data]
/-- a member as it is handed in -/
structure Mv where
  name : Bs
  date : Int
  dv : Value
  data : Bs
/-- a row of members in memory -/
structure MRow (w : World) (g o : Nat) (ms : List Mv) : Prop where
  lt : g < w.heap.size
  c0 : ∀ i m, ms[i]? = some m → w.cell? ⟨g, o + i * 3, none⟩ = some (.string (mk m.name))
  c1 : ∀ i m, ms[i]? = some m → w.cell? ⟨g, o + i * 3 + 1, none⟩ = some (.int .i64 m.date)
  c2 : ∀ i m, ms[i]? = some m → w.cell? ⟨g, o + i * 3 + 2, none⟩ = some m.dv
def Mems (w : World) (v : Value) (ms : List Mv) : Prop :=
  ((∃ a cap, v = .slice a 0 cap) ∧ ms = []) ∨ ∃ g o cap, v = .slice (some ⟨g, o, none⟩) ms.length cap ∧ ms.length ≤ cap ∧ MRow w g o ms ∧ ∀ m ∈ ms, Rds w m.dv m.data
theorem MRow.below {w w' : World} {g o : Nat} {ms : List Mv} (h : MRow w g o ms) (hb : Below w.heap.size w w') : MRow w' g o ms :=
  ⟨Nat.lt_of_lt_of_le h.lt hb.size, fun i n hi => (hb.cell (p := ⟨g, _, none⟩) h.lt).trans (h.c0 i n hi), fun i n hi => (hb.cell (p := ⟨g, _, none⟩) h.lt).trans (h.c1 i n hi),
    fun i n hi => (hb.cell (p := ⟨g, _, none⟩) h.lt).trans (h.c2 i n hi)⟩
theorem Mems.below {w w' : World} {v : Value} {ms : List Mv} (h : Mems w v ms) (hb : Below w.heap.size w w') : Mems w' v ms := by
  rcases h with ⟨⟨a, c, rfl⟩, rfl⟩ | ⟨g, o, cap, rfl, h0, h1, h2⟩
  · exact .inl ⟨⟨_, _, rfl⟩, rfl⟩
  · exact .inr ⟨g, o, cap, rfl, h0, h1.below hb, fun n hn => (h2 n hn).below hb⟩
theorem Mems.len {w : World} {v : Value} {ms : List Mv} (h : Mems w v ms) : ∃ a cap, v = .slice a ms.length cap := by
  rcases h with ⟨⟨a, c, rfl⟩, rfl⟩ | ⟨g, o, cap, rfl, _⟩
  · exact ⟨_, _, rfl⟩
  · exact ⟨_, _, rfl⟩

def evn (n : Nat) : Nat := n + n % 2
def lng (b : Bs) : Bool := decide (15 < b.length)
/-- bytes of a member's head and data -/
def wtD (m : Mv) : Nat := 60 + evn m.data.length
/-- bytes of a member's name in the table -/
def wtT (m : Mv) : Nat := if lng m.name then m.name.length + 2 else 0
def sumM (f : Mv → Nat) : List Mv → Nat
  | [] => 0
  | m :: r => f m + sumM f r
theorem sumM_append (f : Mv → Nat) (a b : List Mv) : sumM f (a ++ b) = sumM f a + sumM f b := by
  induction a with
  | nil => simp [sumM]
  | cons x r ih => simp only [List.cons_append, sumM, ih]; omega
theorem sumM_take (f : Mv → Nat) {ms : List Mv} {k : Nat} {m : Mv} (h : ms[k]? = some m) : sumM f (ms.take (k + 1)) = sumM f (ms.take k) + f m := by
  rw [List.take_add_one, h, sumM_append]
  simp [sumM]
theorem sumM_take_le (f : Mv → Nat) (ms : List Mv) (k : Nat) : sumM f (ms.take k) ≤ sumM f ms := by
  have := sumM_append f (ms.take k) (ms.drop k)
  rw [List.take_append_drop] at this
  omega
theorem sumM_mem (f : Mv → Nat) {ms : List Mv} {m : Mv} (h : m ∈ ms) : f m ≤ sumM f ms := by
  induction ms with
  | nil => cases h
  | cons x r ih =>
    rcases List.mem_cons.1 h with rfl | h
    · simp [sumM]
    · have := ih h; simp only [sumM]; omega
def lenA (ms : List Mv) : Nat := 8 + sumM wtD ms + (if 0 < sumM wtT ms then 60 + evn (sumM wtT ms) else 0)
def tbl : List Mv → Bs
  | [] => []
  | m :: r => (if lng m.name then m.name ++ [47, 10] else []) ++ tbl r
theorem tbl_append (a b : List Mv) : tbl (a ++ b) = tbl a ++ tbl b := by
  induction a with
  | nil => rfl
  | cons x r ih => simp only [List.cons_append, tbl, ih, List.append_assoc]
theorem tbl_take {ms : List Mv} {k : Nat} {m : Mv} (h : ms[k]? = some m) : tbl (ms.take (k + 1)) = tbl (ms.take k) ++ (if lng m.name then m.name ++ [47, 10] else []) := by
  rw [List.take_add_one, h, tbl_append]
  simp [tbl]
theorem tbl_len (ms : List Mv) : (tbl ms).length = sumM wtT ms := by
  induction ms with
  | nil => rfl
  | cons x r ih =>
    simp only [tbl, sumM, List.length_append, ih, wtT]
    split <;> simp
def nmb (b : Bs) : Bool := !b.isEmpty && decide (b.length ≤ 255) && !(b.any fun c => c == 47 || c == 0 || c == 10)
def okM (m : Mv) : Bool := nmb m.name && decide (0 ≤ m.date) && decide (m.date ≤ 999999999999)
def dec (n : Int) : Bs := Lib.itoa n
def pad (n : Nat) (b : Bs) : Bs := b ++ List.replicate (n - b.length) 32
def headB (a b c d e f : Bs) : Bs := pad 16 a ++ pad 12 b ++ pad 6 c ++ pad 6 d ++ pad 8 e ++ pad 10 f ++ [96, 10]
def dataB (d : Bs) : Bs := d ++ (if d.length % 2 = 1 then [10] else [])
def nameB (p : Nat) (b : Bs) : Bs := if lng b then 47 :: dec p else b ++ [47]
def memB (p : Nat) (m : Mv) : Bs := headB (nameB p m.name) (dec m.date) [48] [48] [49, 48, 48, 54, 52, 52] (dec m.data.length) ++ dataB m.data
def bodyB : Nat → List Mv → Bs
  | _, [] => []
  | p, m :: r => memB p m ++ bodyB (p + wtT m) r
def magicB : Bs := [33, 60, 97, 114, 99, 104, 62, 10]
def tableB (ms : List Mv) : Bs := if 0 < (tbl ms).length then headB [47, 47] [] [] [] [] (dec (tbl ms).length) ++ dataB (tbl ms) else []
def archB (ms : List Mv) : Bs := magicB ++ tableB ms ++ bodyB 0 ms
theorem bodyB_append (a b : List Mv) : ∀ p, bodyB p (a ++ b) = bodyB p a ++ bodyB (p + sumM wtT a) b := by
  induction a with
  | nil => intro p; simp [bodyB, sumM]
  | cons x r ih =>
    intro p
    simp only [List.cons_append, bodyB, ih, sumM, List.append_assoc]
    rw [Nat.add_assoc]
theorem bodyB_take {ms : List Mv} {k : Nat} {m : Mv} (h : ms[k]? = some m) : bodyB 0 (ms.take (k + 1)) = bodyB 0 (ms.take k) ++ memB (sumM wtT (ms.take k)) m := by
  rw [List.take_add_one, h, bodyB_append]
  simp [bodyB]
/-- what is wrong with members: a number, 0 of nothing -/
def wrongR (ms : List Mv) : Nat := if 5000 < ms.length ∨ 65536 < lenA ms then 2 else if ms.all okM then 0 else 1
end Go.Proofs.YtbfchadcpokjoaaGreatDoor.Arc
namespace Go.Proofs.YtbfchadcpokjoaaGreatDoor.Arc
open Go.RowKit Go.Maps
set_option maxRecDepth 100000

theorem ival {a b : Int} (h : a = b) : Value.int .i64 a = .int .i64 b := by rw [h]
theorem even_any (n : Nat) (h : n ≤ 1099511627776) (w : World) : Calls Tryz.prog 223 #[.int .i64 n] w fun r w' => r = .returned (.int .i64 (evn n : Nat)) ∧ w' = w := by
  have h1 : ((n : Int).tmod 2) = (n % 2 : Nat) := by rw [Int.tmod_eq_emod_of_nonneg (by omega)]; omega
  go_enter Tryz.func223, Tryz.ntmps223
  go_wp2
  go_ret
  refine ⟨ret_int ?_, rfl⟩
  unfold evn
  omega
theorem long_any (s : ByteArray) (w : World) : Calls Tryz.prog 214 #[.string s] w fun r w' => r = .returned (.bool (lng (tl s))) ∧ w' = w := by
  go_enter Tryz.func214, Tryz.ntmps214
  go_wp2
  go_ret
  refine ⟨ret_bool ?_, rfl⟩
  unfold lng
  rw [tl_len]
  simp only [decide_eq_decide]
  omega
set_option maxRecDepth 100000 in
set_option maxHeartbeats 2000000 in
theorem length_row (g o cap : Nat) (ms : List Mv) (w : World) (h : MRow w g o ms) (hr : ∀ m ∈ ms, Rds w m.dv m.data) (hl : ms.length ≤ 1099511627776) (hA : lenA ms ≤ 1099511627776) :
    Calls Tryz.prog 209 #[.slice (some ⟨g, o, none⟩) ms.length cap] w fun r w' => r = .returned (.int .i64 (lenA ms : Nat)) ∧ Below w.heap.size w w' := by
  have hD := sumM_take_le wtD ms
  have hT := sumM_take_le wtT ms
  go_enter Tryz.func209, Tryz.ntmps209
  go_wp2
  go_loopw [3, 4, 6, 9] (fun a b _ i wr => ∃ k : Nat, k ≤ ms.length ∧ i = .int .i64 k ∧ a = .int .i64 ((8 + sumM wtD (ms.take k) : Nat) : Int) ∧ b = .int .i64 (sumM wtT (ms.take k) : Nat) ∧ Below w.heap.size w wr) (fun _ _ _ i _ => ms.length - (intOf i).toNat)
  case atStart => exact ⟨0, by omega, rfl, rfl, rfl, Below.refl _ _⟩
  case round =>
    obtain ⟨k, hk, rfl, rfl, rfl, hB⟩ := hrel
    by_cases hkl : k < ms.length
    · have k1 : (k : Int) < ms.length := by omega
      obtain ⟨m, hm⟩ : ∃ m, ms[k]? = some m := ⟨_, List.getElem?_eq_getElem hkl⟩
      have hR := h.below hB
      have d0 := hR.c0 k m hm
      have d1 := hR.c1 k m hm
      have d2 := hR.c2 k m hm
      have hmem := List.mem_of_getElem? hm
      obtain ⟨da, dc, hdv⟩ := (hr m hmem).len
      rw [hdv] at d2
      have hs1 := sumM_take wtD hm
      have hs2 := sumM_take wtT hm
      have hb1 := hD (k + 1)
      have hb2 := hT (k + 1)
      have hb3 : sumM wtD ms ≤ 1099511627776 ∧ sumM wtT ms ≤ 1099511627776 := by
        unfold lenA at hA
        unfold evn at hA
        split at hA <;> omega
      have hwd : wtD m = 60 + evn m.data.length := rfl
      have hml : m.data.length ≤ evn m.data.length := by unfold evn; omega
      have qe := fun w => even_any m.data.length (by omega) w
      have ql := fun w => long_any (mk m.name) w
      rw [tl_mk] at ql
      obtain ⟨x, hx⟩ : ∃ x, x = sumM wtD (ms.take k) := ⟨_, rfl⟩
      obtain ⟨y, hy⟩ : ∃ y, y = sumM wtT (ms.take k) := ⟨_, rfl⟩
      obtain ⟨e, he⟩ : ∃ e, e = evn m.data.length := ⟨_, rfl⟩
      have hst : ∀ t, t = wtT m → 8 + sumM wtD (ms.take (k + 1)) = 8 + (x + (60 + e)) ∧ sumM wtT (ms.take (k + 1)) = y + t := fun t ht => by rw [hs1, hs2, hwd, ht, hx, hy, he]; exact ⟨rfl, rfl⟩
      have HS := hide' hst
      rw [← hx, ← hy]
      rw [← he] at qe
      have hxe : x + (60 + e) ≤ 1099511627776 := by rw [hs1, hwd, ← hx, ← he] at hb1; omega
      have hyb : y + wtT m ≤ 1099511627776 := by rw [hs2, ← hy] at hb2; omega
      have hwt : wtT m = if lng m.name then m.name.length + 2 else 0 := rfl
      have HB := hide' hB
      clear hR h hr hD hT hs1 hs2 hb1 hb2 hb3 hwd hml hst hx hy he hA hB hm hmem
      cases hlg : lng m.name with
      | false =>
        rw [hlg] at ql hwt
        go_wp2_with fail
        refine (qe _).mono ?_
        rintro r w1 ⟨rfl, rfl⟩
        go_wp2_with fail
        refine (ql _).mono ?_
        rintro r w1 ⟨rfl, rfl⟩
        have hs := HS.out 0 (by rw [hwt]; rfl)
        have HS2 := hide' hs
        clear hs HS
        go_wp2
        exact ⟨⟨k + 1, by omega, by simp, ival (by rw [HS2.out.1]; omega), ival (by rw [HS2.out.2]; omega), HB.out.alloc HB.out.size _⟩, by simp [intOf]; omega⟩
      | true =>
        rw [hlg] at ql hwt
        rw [if_pos rfl] at hwt
        rw [hwt] at hyb
        go_wp2_with fail
        refine (qe _).mono ?_
        rintro r w1 ⟨rfl, rfl⟩
        go_wp2_with fail
        refine (ql _).mono ?_
        rintro r w1 ⟨rfl, rfl⟩
        have hs := HS.out _ hwt.symm
        have HS2 := hide' hs
        clear hs HS
        go_wp2
        exact ⟨⟨k + 1, by omega, by simp, ival (by rw [HS2.out.1]; omega), ival (by rw [HS2.out.2]; omega), HB.out.alloc HB.out.size _⟩, by simp [intOf]; omega⟩
    · obtain rfl : k = ms.length := by omega
      have k1 : ¬ (ms.length : Int) < ms.length := by omega
      rw [List.take_length]
      have hLA : lenA ms = 8 + sumM wtD ms + (if 0 < sumM wtT ms then 60 + evn (sumM wtT ms) else 0) := rfl
      clear hD hT h hr
      generalize sumM wtD ms = x at *
      generalize sumM wtT ms = y at *
      by_cases hy : 0 < y
      · rw [if_pos hy] at hLA
        have hye : y ≤ evn y := by unfold evn; omega
        have qe := fun w => even_any y (by omega) w
        generalize evn y = e at *
        go_wp2_with fail
        refine (qe _).mono ?_
        rintro r w1 ⟨rfl, rfl⟩
        go_wp2
        go_ret
        exact ⟨ret_int (by omega), hB⟩
      · rw [if_neg hy] at hLA
        have hy2 : ¬ (0 : Int) < y := by omega
        go_wp2
        go_ret
        exact ⟨ret_int (by omega), hB⟩
set_option maxRecDepth 100000 in
theorem length_nil (a : Option Addr) (c : Nat) (w : World) : Calls Tryz.prog 209 #[.slice a 0 c] w fun r w' => r = .returned (.int .i64 8) ∧ w' = w := by
  go_enter Tryz.func209, Tryz.ntmps209
  go_wp2
  go_loopw [3, 4, 6, 9] (fun a b _ i wr => i = .int .i64 0 ∧ a = .int .i64 8 ∧ b = .int .i64 0 ∧ wr = w) (fun _ _ _ _ _ => 0)
  case atStart => exact ⟨rfl, rfl, rfl, rfl⟩
  case round =>
    obtain ⟨rfl, rfl, rfl, rfl⟩ := hrel
    go_wp2
    go_ret
    exact ⟨rfl, rfl⟩
theorem length_any (v : Value) (ms : List Mv) (w : World) (h : Mems w v ms) (hl : ms.length ≤ 1099511627776) (hA : lenA ms ≤ 1099511627776) :
    Calls Tryz.prog 209 #[v] w fun r w' => r = .returned (.int .i64 (lenA ms : Nat)) ∧ Below w.heap.size w w' := by
  rcases h with ⟨⟨a, c, rfl⟩, rfl⟩ | ⟨g, o, cap, rfl, h0, h1, h2⟩
  · exact (length_nil a c w).mono fun r w' ⟨hr, hw⟩ => ⟨hr, by rw [hw]; exact Below.refl _ _⟩
  · exact length_row g o cap ms w h1 h2 hl hA
end Go.Proofs.YtbfchadcpokjoaaGreatDoor.Arc
namespace Go.Proofs.YtbfchadcpokjoaaGreatDoor.Arc
open Go.RowKit Go.Maps
set_option maxRecDepth 100000

theorem cells_tl (s : ByteArray) : byteCells s = Lib.byteCells (tl s) := rfl
theorem strCells_tl (s : ByteArray) : Lib.strCells s = Lib.byteCells (tl s) := rfl
set_option maxHeartbeats 1000000 in
theorem append_str {v : Value} {xs : Bs} (s : ByteArray) (ty : TypeId) (w : World) (hv : Dat w v xs) (hsz : xs.length + s.size ≤ 1099511627776) :
    ∃ v' w', (Builtin.append_ #[33, 9] ty #[v, .string s]).run Tryz.prog w = .ok v' w' ∧ Dat w' v' (xs ++ tl s) ∧ w.grownBy w' v.ownBlock ∧ (v'.ownBlock = v.ownBlock ∨ v'.ownBlock = some w.heap.size) := by
  obtain ⟨i, hi, hz0, hz1, hz2⟩ := info_parts info5
  have hs := Src.ofString (P := Tryz.prog) w Tryz.underlying9 s
  rw [cells_tl] at hs
  have hbl := Lib.byteCells_length (tl s)
  have hxl := Lib.byteCells_length xs
  have hsl := tl_len s
  have hml : xs.length + s.size ≤ maxLen := by unfold maxLen; omega
  have e3 : Lib.byteCells (xs ++ tl s) = Lib.byteCells xs ++ Lib.byteCells (tl s) := Lib.byteCells_append xs (tl s)
  have hlen : (xs ++ tl s).length = xs.length + s.size := by rw [List.length_append, hsl]
  rcases hv with ⟨rfl, rfl⟩ | ⟨g, cap, cur, rfl, hg, h1, h2, h3, h4⟩
  · by_cases hy : tl s = []
    · have h0 : s.size = 0 := by rw [← hsl, hy]; rfl
      refine ⟨.slice none 0 0, w, ?_, .inl ⟨rfl, by rw [hy]; rfl⟩, ⟨rfl, rfl, rfl, Nat.le_refl _, fun _ _ _ => rfl⟩, .inl rfl⟩
      have hce := hs.cells
      rw [hy, h0] at hce
      simp [Builtin.append_, run_underlying Tryz.underlying33, run_underlying Tryz.underlying9, sizeOf, typeInfo, hi, Builtin.lenOf, h0, hz1, hce, Lib.byteCells]
    · have hpos : 0 < s.size := by rw [← hsl]; exact List.length_pos_iff.2 hy
      have hr := run_append_grow_src w 33 9 ty 5 i (.int .u8 0) Tryz.underlying33 hi hz0 none 0 0 [] (run_firstCells_none w.drew i.size 0 0 0) (.string s) s.size (Lib.byteCells (tl s)) (by rw [hz1]; exact hs) (by omega) (by omega)
        (by rw [hz2]; exact growslice_fits (by omega) (by omega))
      simp only [List.nil_append, Nat.zero_add] at hr
      refine ⟨_, _, hr, ?_, ⟨rfl, rfl, rfl, by simp, fun k hk _ => Lib.alloc_old w.drew _ k hk⟩, .inr rfl⟩
      have := dat_new w _ (tl s) (Value.int .u8 0).cells (grownCap w s.size 0 5) rfl rfl (by rw [hsl]; exact grownCap_ge _ _ _ _) (grownCap_le_maxLen _ _ _ _ (by omega))
      rw [hsl] at this
      exact this
  · by_cases hroom : xs.length + s.size ≤ cap
    · have hr := Lib.run_append_room_string (P := Tryz.prog) w 33 9 ty 5 i Tryz.underlying33 Tryz.underlying9 hi hz1 g xs.length cap cur hg s hroom (by omega)
      rw [h4, strCells_tl] at hr
      have hcs : (Lib.byteCells xs ++ Lib.byteCells (tl s) ++ cur.toList.drop (xs.length + s.size)).toArray.size = cur.size := by
        simp only [List.size_toArray, List.length_append, hxl, hbl, List.length_drop, Array.length_toList]
        omega
      refine ⟨_, _, hr, ?_, ⟨rfl, rfl, rfl, by simp, fun k _ hk => setRow_other w g k _ (fun e => hk (by simp [Value.ownBlock, e]))⟩, .inl rfl⟩
      refine .inr ⟨g, cap, _, by rw [hlen], setRow_heap w g cur _ 5 _ hg, by omega, by rw [hcs]; exact h2, h3, ?_⟩
      rw [e3, List.take_left' (by rw [List.length_append, hxl, hbl, hlen, hsl])]
    · have hold : (Builtin.firstCells i.size xs.length (.slice (some ⟨g, 0, none⟩) xs.length cap)).run Tryz.prog w.drew = .ok (Lib.byteCells xs).toArray w.drew := by
        refine run_firstCells_some w.drew i.size xs.length ⟨g, 0, none⟩ xs.length cap (Lib.byteCells xs) (by rw [hxl, hz1, Nat.mul_one]) fun j u hj => ?_
        have hD : Dat w (.slice (some ⟨g, 0, none⟩) xs.length cap) xs := .inr ⟨g, cap, cur, rfl, hg, h1, h2, h3, h4⟩
        rcases hD.rds with ⟨e, _⟩ | ⟨a', cap', e, _, hcc⟩
        · cases e
        · cases e
          simpa using hcc j u hj
      have hr := run_append_grow_src w 33 9 ty 5 i (.int .u8 0) Tryz.underlying33 hi hz0 (some ⟨g, 0, none⟩) xs.length cap (Lib.byteCells xs) hold (.string s) s.size (Lib.byteCells (tl s)) (by rw [hz1]; exact hs) (by omega) (by omega)
        (by rw [hz2]; exact growslice_fits (by omega) (by omega))
      refine ⟨_, _, hr, ?_, ⟨rfl, rfl, rfl, by simp, fun k hk _ => Lib.alloc_old w.drew _ k hk⟩, .inr rfl⟩
      have := dat_new w _ (xs ++ tl s) (Value.int .u8 0).cells (grownCap w (xs.length + s.size) cap 5) e3.symm rfl (by rw [hlen]; exact grownCap_ge _ _ _ _) (grownCap_le_maxLen _ _ _ _ hml)
      rw [hlen] at this
      exact this
/-- append(v, s...) at the operation, s a text -/
theorem wpList_append_str {v : Value} {xs : Bs} {s : ByteArray} (w : World) {ops : Array Oper} {rest : List Oper} {o : Oper} {a : Act} {Q : Exit → Act → World → Prop} (hgd : o.guard = none) (x y : Operand)
    (ho : o.op = .call { callee := .builtin .append, args := #[x, y], argTypes := #[33, 9] }) (hx : a.eval x = v) (hy : a.eval y = .string s)
    (hv : Dat w v xs) (hsz : xs.length + s.size ≤ 1099511627776)
    (h : ∀ v' w', Dat w' v' (xs ++ tl s) → w.grownBy w' v.ownBlock → (v'.ownBlock = v.ownBlock ∨ v'.ownBlock = some w.heap.size) → wpList Tryz.prog ops Q rest (a.put o.dst v') w') :
    wpList Tryz.prog ops Q (o :: rest) a w := by
  refine wpList_plain hgd fun K hK => ?_
  obtain ⟨v', w', hr, h2, h4, h5⟩ := append_str s o.type w hv hsz
  unfold Oper.wp execOp
  simp only [ho, resolve, invoke, builtin, Sem.run_bind, Sem.run_pure, Result.andThen_ok, List.map_toArray, List.map_cons, List.map_nil, hx, hy, hr]
  exact hK _ _ (h v' w' h2 h4 h5)
theorem Dat.form {w : World} {v : Value} {bs : Bs} (h : Dat w v bs) : ∃ a n cap, v = .slice a n cap := by
  obtain ⟨a, cap, e⟩ := h.len
  exact ⟨a, _, cap, e⟩
theorem byte_rds (w : World) (b : UInt8) : Rds (w.alloc (.cells #[.int .u8 (b.toNat : Nat)] 5)) (.slice (some ⟨w.heap.size, 0, none⟩) 1 1) [b] := by
  refine .inr ⟨⟨w.heap.size, 0, none⟩, 1, rfl, fun _ => lt_of_block (alloc_new _ _), fun j u hj => ?_⟩
  rw [add_zero]
  rcases j with _ | j
  · cases hj; rw [Lib.cell_of_heap (alloc_new _ _)]; rfl
  · simp [Lib.byteCells] at hj
/-- a row of bytes that grows: where it may lie -/
def OwnB (N : Nat) (v : Value) : Prop := ∀ g, v.ownBlock = some g → N ≤ g
theorem OwnB.nil (N : Nat) : OwnB N (.slice none 0 0) := fun g h => (by cases h)
theorem OwnB.step {N : Nat} {w : World} {v v' : Value} (h : OwnB N v) (hN : N ≤ w.heap.size) (ho : v'.ownBlock = v.ownBlock ∨ v'.ownBlock = some w.heap.size) : OwnB N v' := fun g hg => by
  rcases ho with e | e
  · exact h g (e ▸ hg)
  · rw [hg] at e; have := Option.some.inj e; omega
theorem below_own {N : Nat} {w0 w w' : World} {v : Value} (hb : Below N w0 w) (h : OwnB N v) (hg : w.grownBy w' v.ownBlock) (hN : N ≤ w.heap.size) : Below N w0 w' :=
  hb.trans ⟨hg.os, hg.tape, hg.output, hg.size, fun k hk => hg.block k (by omega) fun e => by have := h k e.symm; omega⟩
/-- a row of bytes that has grown since w0: of what was there nothing has turned but that row's own block b0 -/
structure Grw (w0 : World) (b0 : Option Nat) (w : World) (v : Value) : Prop where
  tr : Turn (fun i => b0 = some i) w0 w
  ow : v.ownBlock = b0 ∨ ∀ g, v.ownBlock = some g → w0.heap.size ≤ g
theorem Grw.refl (w : World) (v : Value) : Grw w v.ownBlock w v := ⟨Turn.refl _ _, .inl rfl⟩
theorem Grw.step {w0 w w' : World} {b0 : Option Nat} {v v' : Value} (h : Grw w0 b0 w v) (hg : w.grownBy w' v.ownBlock) (ho : v'.ownBlock = v.ownBlock ∨ v'.ownBlock = some w.heap.size) : Grw w0 b0 w' v' := by
  refine ⟨h.tr.trans (Turn.of_grown (S := fun i => v.ownBlock = some i) hg fun k e => e) fun i hi => ?_, ?_⟩
  · rcases h.ow with e | e
    · exact .inl (e ▸ hi)
    · exact .inr (e i hi)
  · rcases ho with e | e
    · rw [e]; exact h.ow
    · refine .inr fun g hg => ?_
      rw [e] at hg
      have := Option.some.inj hg
      have := h.tr.size
      omega
theorem Grw.alloc {w0 w : World} {b0 : Option Nat} {v : Value} (h : Grw w0 b0 w v) (o : Obj) : Grw w0 b0 (w.alloc o) v := ⟨h.tr.alloc o, h.ow⟩
theorem Grw.below {w0 w : World} {b0 : Option Nat} {v : Value} (h : Grw w0 b0 w v) {N : Nat} (hN : N ≤ w0.heap.size) (hO : ∀ g, b0 = some g → N ≤ g) : Below N w0 w := h.tr.below hN fun i hi => hO i hi
theorem Grw.own {w0 w : World} {b0 : Option Nat} {v : Value} (h : Grw w0 b0 w v) {N : Nat} (hN : N ≤ w0.heap.size) (hO : ∀ g, b0 = some g → N ≤ g) : OwnB N v := fun g hg => by
  rcases h.ow with e | e
  · exact hO g (e ▸ hg)
  · exact Nat.le_trans hN (e g hg)
set_option maxRecDepth 100000 in
set_option maxHeartbeats 2000000 in
theorem table_row (g o cap : Nat) (ms : List Mv) (w : World) (h : MRow w g o ms) (hr : ∀ m ∈ ms, Rds w m.dv m.data) (hl : ms.length ≤ 1099511627776) (hA : sumM wtT ms ≤ 1000000000) :
    Calls Tryz.prog 210 #[.slice (some ⟨g, o, none⟩) ms.length cap] w fun r w' => (∃ v, r = .returned v ∧ Dat w' v (tbl ms) ∧ OwnB w.heap.size v) ∧ Below w.heap.size w w' := by
  have hT := sumM_take_le wtT ms
  go_enter Tryz.func210, Tryz.ntmps210
  go_wp2
  go_loopw [3, 5, 8] (fun t _ i wr => ∃ k : Nat, k ≤ ms.length ∧ i = .int .i64 k ∧ Dat wr t (tbl (ms.take k)) ∧ OwnB w.heap.size t ∧ Below w.heap.size w wr) (fun _ _ i _ => ms.length - (intOf i).toNat)
  case atStart => exact ⟨0, by omega, rfl, .inl ⟨rfl, rfl⟩, OwnB.nil _, Below.refl _ _⟩
  case round =>
    obtain ⟨k, hk, rfl, hD, hO, hB⟩ := hrel
    by_cases hkl : k < ms.length
    · have k1 : (k : Int) < ms.length := by omega
      obtain ⟨m, hm⟩ : ∃ m, ms[k]? = some m := ⟨_, List.getElem?_eq_getElem hkl⟩
      have hR := h.below hB
      have d0 := hR.c0 k m hm
      have d1 := hR.c1 k m hm
      have d2 := hR.c2 k m hm
      have hmem := List.mem_of_getElem? hm
      obtain ⟨da, dc, hdv⟩ := (hr m hmem).len
      rw [hdv] at d2
      have hs2 := sumM_take wtT hm
      have hb2 := hT (k + 1)
      have hst := tbl_take hm
      have htl := tbl_len (ms.take k)
      have hbd : (tbl (ms.take k)).length + wtT m ≤ 1000000000 := by omega
      have ql := fun w => long_any (mk m.name) w
      rw [tl_mk] at ql
      obtain ⟨t, ht⟩ : ∃ t, t = tbl (ms.take k) := ⟨_, rfl⟩
      rw [← ht] at hst hD hbd
      have HS := hide' hst
      have HB := hide' hB
      have hwt : wtT m = if lng m.name then m.name.length + 2 else 0 := rfl
      have hb1 : ∀ o, Below w.heap.size w (wr.alloc o) := fun o => hB.alloc hB.size o
      have hD1 : ∀ o, Dat (wr.alloc o) u3 t := fun o => hD.kept fun g hg => Below.heap_alloc wr o g (hD.lt g hg)
      have hsw := hB.size
      clear hR h hr hT hs2 hb2 hst hB hm hmem htl ht
      cases hlg : lng m.name with
      | false =>
        rw [hlg] at ql hwt
        rw [hlg] at HS
        go_wp2_with fail
        refine (ql _).mono ?_
        rintro r w1 ⟨rfl, rfl⟩
        go_wp2
        refine ⟨⟨k + 1, by omega, by simp, ?_, hO, hb1 _⟩, by simp [intOf]; omega⟩
        rw [HS.out]
        simpa using hD1 _
      | true =>
        rw [hlg] at ql hwt
        rw [hlg] at HS
        rw [if_pos rfl] at hwt
        rw [hwt] at hbd
        go_wp2_with fail
        refine (ql _).mono ?_
        rintro r w1 ⟨rfl, hw1⟩
        have hDw : Dat w1 u3 t := by rw [hw1]; exact hD1 _
        have hBw : Below w.heap.size w w1 := by rw [hw1]; exact hb1 _
        have hc0 : w1.cell? ⟨wr.heap.size, 0, none⟩ = some (.string (mk m.name)) := by rw [hw1, Lib.cell_of_heap (alloc_new _ _)]; rfl
        clear hw1 hD1 hb1
        go_wp2_with (at_builtin; refine wpList_append_str _ rfl _ _ rfl rfl rfl hDw (by rw [mk_size]; omega) ?_)
        intro v2 w2 hD2 hg2 ho2
        have hO2 : OwnB w.heap.size v2 := hO.step hBw.size ho2
        have hB2 := below_own hBw hO hg2 hBw.size
        rw [tl_mk] at hD2
        go_wp2_with (at_builtin; refine wpList_append_str _ rfl _ _ rfl rfl rfl hD2 (by rw [List.length_append]; show _ + 2 ≤ _; omega) ?_)
        intro v3 w3 hD3 hg3 ho3
        have hO3 : OwnB w.heap.size v3 := hO2.step hB2.size ho3
        have hB3 := below_own hB2 hO2 hg3 hB2.size
        go_wp2
        refine ⟨⟨k + 1, by omega, by simp, ?_, hO3, hB3⟩, by simp [intOf]; omega⟩
        rw [HS.out, if_pos trivial]
        exact hD3
    · obtain rfl : k = ms.length := by omega
      have k1 : ¬ (ms.length : Int) < ms.length := by omega
      rw [List.take_length] at hD
      obtain ⟨a, c, hv⟩ := hD.len
      subst hv
      go_wp2
      go_ret
      exact ⟨⟨_, rfl, hD, hO⟩, hB⟩
set_option maxRecDepth 100000 in
theorem table_nil (a : Option Addr) (c : Nat) (w : World) : Calls Tryz.prog 210 #[.slice a 0 c] w fun r w' => r = .returned (.slice none 0 0) ∧ w' = w := by
  go_enter Tryz.func210, Tryz.ntmps210
  go_wp2
  go_loopw [3, 5, 8] (fun t _ i wr => i = .int .i64 0 ∧ t = .slice none 0 0 ∧ wr = w) (fun _ _ _ _ => 0)
  case atStart => exact ⟨rfl, rfl, rfl⟩
  case round =>
    obtain ⟨rfl, rfl, rfl⟩ := hrel
    go_wp2
    go_ret
    exact ⟨rfl, rfl⟩
/-- tableOf -/
theorem table_any (v : Value) (ms : List Mv) (w : World) (h : Mems w v ms) (hl : ms.length ≤ 1099511627776) (hA : sumM wtT ms ≤ 1000000000) :
    Calls Tryz.prog 210 #[v] w fun r w' => (∃ v, r = .returned v ∧ Dat w' v (tbl ms) ∧ OwnB w.heap.size v) ∧ Below w.heap.size w w' := by
  rcases h with ⟨⟨a, c, rfl⟩, rfl⟩ | ⟨g, o, cap, rfl, h0, h1, h2⟩
  · exact (table_nil a c w).mono fun r w' ⟨hr, hw⟩ => ⟨⟨_, hr, .inl ⟨rfl, rfl⟩, OwnB.nil _⟩, by rw [hw]; exact Below.refl _ _⟩
  · exact table_row g o cap ms w h1 h2 hl hA
set_option maxRecDepth 100000 in
set_option maxHeartbeats 2000000 in
/-- appendData -/
theorem adata_any (v x : Value) (bs d : Bs) (w : World) (hv : Dat w v bs) (hx : Rds w x d) (hsz : bs.length + d.length ≤ 1000000000) :
    Calls Tryz.prog 213 #[v, x] w fun r w' => ∃ v', r = .returned v' ∧ Dat w' v' (bs ++ dataB d) ∧ Grw w v.ownBlock w' v' := by
  obtain ⟨xa, xc, rfl⟩ := hx.len
  have qe := fun w => even_any d.length (by omega) w
  obtain ⟨e, he⟩ : ∃ e, e = evn d.length := ⟨_, rfl⟩
  rw [← he] at qe
  go_enter Tryz.func213, Tryz.ntmps213
  go_wp2_with (at_builtin; refine wpList_append_dat _ rfl _ _ rfl rfl rfl hv hx (by omega) ?_)
  intro v2 w2 hD2 _ hg2 ho2
  have hG2 := (Grw.refl w v).step hg2 ho2
  go_wp2_with fail
  refine (qe _).mono ?_
  rintro r w3 ⟨rfl, rfl⟩
  by_cases hev : d.length % 2 = 1
  · have h1 : (d.length : Int) < e := by rw [he]; unfold evn; omega
    have hDB : dataB d = d ++ [10] := by unfold dataB; rw [if_pos hev]
    clear qe he
    have hb4 : Below w3.heap.size w3 (w3.alloc (.cells #[.int .u8 10] 5)) := (Below.refl _ _).alloc (Nat.le_refl _) _
    have hD4 := hD2.kept fun g hg => hb4.block g (hD2.lt g hg)
    have hr4 := byte_rds w3 10
    have hG4 := hG2.alloc (.cells #[.int .u8 10] 5)
    have hln : (bs ++ d).length + 1 ≤ 1099511627776 := by rw [List.length_append]; omega
    go_wp2_with (at_builtin; refine wpList_append_dat _ rfl _ _ rfl rfl rfl hD4 hr4 hln ?_)
    intro v5 w5 hD5 _ hg5 ho5
    have hG5 := hG4.step hg5 (by first | exact ho5 | (rw [size_alloc']; exact ho5))
    rw [← hDB] at hD5
    obtain ⟨a5, n5, c5, hv5⟩ := hD5.form
    subst hv5
    go_wp2
    go_ret
    exact ⟨_, rfl, hD5, hG5⟩
  · have h1 : ¬ (d.length : Int) < e := by rw [he]; unfold evn; omega
    have hDB : dataB d = d := by unfold dataB; rw [if_neg hev, List.append_nil]
    have hD2 : Dat w3 v2 (bs ++ dataB d) := by rw [hDB]; exact hD2
    obtain ⟨a2, n2, c2, hv2⟩ := hD2.form
    subst hv2
    clear qe he
    go_wp2
    go_ret
    exact ⟨_, rfl, hD2, hG2⟩
end Go.Proofs.YtbfchadcpokjoaaGreatDoor.Arc
