import Derived.Test.YtabmnkddmdffkaaGreatDoorProg
import Derived.WalkKit
import Derived.WalkSpells
import Derived.WalkLawsBesides
import Derived.WalkMore
import Derived.Lib.Strings
import Derived.Lib.IndexBytes
import Derived.Maps.OwnIn
import Derived.Maps.RangeWalk
import Derived.Deep.AppendSrc
import Derived.Lib.BufferWrite
import Derived.BigQuiet
import Derived.OneCell
import Derived.Lib.ItoaNum
namespace Go.Proofs.YtabmnkddmdffkaaGreatDoor.Arc
open Go.RowKit
abbrev Bs := List UInt8
theorem hide' {p : Prop} (h : p) : Hid p := h
def tl (x : ByteArray) : List UInt8 := x.data.toList
abbrev mk (l : List UInt8) : ByteArray := ⟨l.toArray⟩
theorem tl_len (s : ByteArray) : (tl s).length = s.size := (Lib.size_eq s).symm
theorem getD_at (s : ByteArray) (k : Nat) (h : k < s.size) : (tl s).getD k 0 = s[k] := by
 unfold tl
 rw [List.getD_eq_getElem?_getD, List.getElem?_eq_getElem (by simpa using h)]; rfl
theorem tl_inj (a b : ByteArray) (h : tl a = tl b) : a = b := by
 obtain ⟨⟨a⟩⟩ := a
 obtain ⟨⟨b⟩⟩ := b
 exact congrArg (fun l : List UInt8 => ByteArray.mk ⟨l⟩) h
theorem tl_mk (l : List UInt8) : tl (mk l) = l := by simp [tl]
theorem mk_tl (s : ByteArray) : mk (tl s) = s := tl_inj _ _ (tl_mk _)
theorem mk_size (l : List UInt8) : (mk l).size = l.length := by rw [← tl_len, tl_mk]
theorem ext_mk (s : ByteArray) (a b : Nat) : s.extract a b = mk (((tl s).drop a).take (b - a)) := tl_inj _ _ (by rw [tl_mk]; exact Lib.extract_data s a b)
theorem ext_drop (s : ByteArray) (a : Nat) : s.extract a s.size = mk ((tl s).drop a) := by
 rw [ext_mk, List.take_of_length_le (by rw [List.length_drop, tl_len]; omega)]
theorem ext_take (s : ByteArray) (b : Nat) : s.extract 0 b = mk ((tl s).take b) := by rw [ext_mk]; simp
theorem beq_no (a c : UInt8) (cn : Nat) (hcn : c.toNat = cn) (h : ¬ a = c) : ((a.toNat : Int) == (cn : Int)) = false := beq_eq_false_iff_ne.2 fun e => h (UInt8.toNat_inj.1 (by omega))
theorem beq_yes (a c : UInt8) (cn : Nat) (hcn : c.toNat = cn) (h : a = c) : ((a.toNat : Int) == (cn : Int)) = true := by rw [h, hcn]; simp
theorem ret_int {a b : Int} (h : a = b) : Ending.returned (.int .i64 a) = .returned (.int .i64 b) := by rw [h]
theorem ret_str {a b : ByteArray} (h : a = b) : Ending.returned (.string a) = .returned (.string b) := by rw [h]
theorem ret_bool {a b : Bool} (h : a = b) : Ending.returned (.bool a) = .returned (.bool b) := by rw [h]
end Go.Proofs.YtabmnkddmdffkaaGreatDoor.Arc
namespace Go.Proofs.YtabmnkddmdffkaaGreatDoor.Arc
open Go.RowKit Go.Maps
theorem below_drewn {B : Nat} {w : World} (q : Nat) : Below B w (w.drewN q) := ⟨rfl, rfl, rfl, Nat.le_refl _, fun _ _ => rfl⟩
theorem below_grown {w w' : World} {r : Option Nat} (h : Below w.heap.size w w') : w.grownBy w' r := ⟨h.os, h.tape, h.output, h.size, fun k hk _ => h.block k hk⟩
structure Turn (S : Nat → Prop) (w w' : World) : Prop where
 os : w'.os = w.os
 tape : w'.tape = w.tape
 output : w'.output = w.output
 size : w.heap.size ≤ w'.heap.size
 block : ∀ k, k < w.heap.size → ¬ S k → w'.heap[k]? = w.heap[k]?
theorem Turn.refl (S : Nat → Prop) (w : World) : Turn S w w := ⟨rfl, rfl, rfl, Nat.le_refl _, fun _ _ _ => rfl⟩
theorem Turn.drew {S : Nat → Prop} {w w' : World} (h : Turn S w w') : Turn S w w'.drew := ⟨h.os, h.tape, h.output, h.size, h.block⟩
theorem Turn.alloc {S : Nat → Prop} {w w' : World} (h : Turn S w w') (o : Obj) : Turn S w (w'.alloc o) := ⟨h.os, h.tape, h.output, Nat.le_trans h.size (by simp), fun k hk hn => (Below.heap_alloc _ _ k (Nat.lt_of_lt_of_le hk h.size)).trans (h.block k hk hn)⟩
theorem Turn.trans {S S' : Nat → Prop} {a b c : World} (h : Turn S a b) (k : Turn S' b c) (hS : ∀ i, S' i → S i ∨ a.heap.size ≤ i) : Turn S a c :=
 ⟨k.os.trans h.os, k.tape.trans h.tape, k.output.trans h.output, Nat.le_trans h.size k.size, fun i hi hn =>
  (k.block i (Nat.lt_of_lt_of_le hi h.size) (fun hs => by rcases hS i hs with h1 | h1; exact hn h1; omega)).trans (h.block i hi hn)⟩
theorem Turn.trans' {S : Nat → Prop} {a b c : World} (h : Turn S a b) (k : Turn S b c) : Turn S a c := h.trans k fun _ hi => .inl hi
theorem Turn.below {S : Nat → Prop} {w w' : World} (h : Turn S w w') {B : Nat} (hB : B ≤ w.heap.size) (hS : ∀ i, S i → B ≤ i) : Below B w w' :=
 ⟨h.os, h.tape, h.output, h.size, fun k hk => h.block k (by omega) fun hs => by have := hS k hs; omega⟩
theorem Turn.of_grown {S : Nat → Prop} {w w' : World} {r : Option Nat} (h : w.grownBy w' r) (hr : ∀ k, r = some k → S k) : Turn S w w' :=
 ⟨h.os, h.tape, h.output, h.size, fun k hk hn => h.block k hk fun e => hn (hr k e.symm)⟩
theorem add_block (a : Addr) (j : Nat) : (a.add j).block = a.block := by unfold Addr.add; split <;> rfl
theorem add_zero (g j : Nat) : (⟨g, 0, none⟩ : Addr).add j = ⟨g, j, none⟩ := by rw [Addr.add_lit, Nat.zero_add]
def Rds (w : World) (v : Value) (bs : Bs) : Prop :=
 (v = .slice none 0 0 ∧ bs = []) ∨ ∃ a cap, v = .slice (some a) bs.length cap ∧ (bs ≠ [] → a.block < w.heap.size) ∧ ∀ j u, (Lib.byteCells bs)[j]? = some u → w.cell? (a.add j) = some u
def Dat (w : World) (v : Value) (bs : Bs) : Prop :=
 (v = .slice none 0 0 ∧ bs = []) ∨ ∃ g cap cur, v = .slice (some ⟨g, 0, none⟩) bs.length cap ∧ w.heap[g]? = some (.cells cur 5 (0, 0)) ∧ bs.length ≤ cap ∧ cap ≤ cur.size ∧ cap ≤ maxLen ∧ cur.toList.take bs.length = Lib.byteCells bs
theorem Dat.nil (w : World) : Dat w (.slice none 0 0) [] := .inl ⟨rfl, rfl⟩
theorem Dat.len {w : World} {v : Value} {bs : Bs} (h : Dat w v bs) : ∃ a cap, v = .slice a bs.length cap := by
 rcases h with ⟨rfl, rfl⟩ | ⟨g, cap, cur, rfl, _⟩
 ·exact ⟨_, _, rfl⟩
 ·exact ⟨_, _, rfl⟩
theorem Rds.len {w : World} {v : Value} {bs : Bs} (h : Rds w v bs) : ∃ a cap, v = .slice a bs.length cap := by
 rcases h with ⟨rfl, rfl⟩ | ⟨g, cap, rfl, _⟩
 ·exact ⟨_, _, rfl⟩
 ·exact ⟨_, _, rfl⟩
theorem Dat.rds {w : World} {v : Value} {bs : Bs} (h : Dat w v bs) : Rds w v bs := by
 rcases h with ⟨rfl, rfl⟩ | ⟨g, cap, cur, rfl, hg, h1, h2, h3, h4⟩
 ·exact .inl ⟨rfl, rfl⟩
 ·refine .inr ⟨_, _, rfl, fun _ => lt_of_block hg, fun j u hj => ?_⟩
  have hjl : j < bs.length := by
   have := (List.getElem?_eq_some_iff.1 hj).1
   rwa [Lib.byteCells_length] at this
  rw [← h4, List.getElem?_take_of_lt hjl] at hj
  rw [add_zero, Lib.cell_of_heap hg]
  simpa using hj
theorem Dat.kept {w w' : World} {v : Value} {bs : Bs} (h : Dat w v bs) (hk : ∀ g, v.ownBlock = some g → w'.heap[g]? = w.heap[g]?) : Dat w' v bs := by
 rcases h with h | ⟨g, cap, cur, rfl, hg, r⟩
 ·exact .inl h
 ·exact .inr ⟨g, cap, cur, rfl, (hk g rfl).trans hg, r⟩
theorem Dat.lt {w : World} {v : Value} {bs : Bs} (h : Dat w v bs) : ∀ g, v.ownBlock = some g → g < w.heap.size := by
 intro g hg
 rcases h with ⟨rfl, _⟩ | ⟨g', cap, cur, rfl, hb, r⟩
 ·cases hg
 ·cases hg; exact lt_of_block hb
theorem Dat.elem {w : World} {v : Value} {bs : Bs} (h : Dat w v bs) : ∀ g, v.ownBlock = some g → ∃ cur, w.heap[g]? = some (.cells cur 5 (0, 0)) := by
 intro g hg
 rcases h with ⟨rfl, _⟩ | ⟨g', cap, cur, rfl, hb, r⟩
 ·cases hg
 ·cases hg; exact ⟨_, hb⟩
theorem cells_ne {bs : Bs} {j : Nat} {u : Value} (h : (Lib.byteCells bs)[j]? = some u) : bs ≠ [] := by
 intro e
 subst e
 have := (List.getElem?_eq_some_iff.1 h).1
 rw [Lib.byteCells_length] at this
 exact absurd this (Nat.not_lt_zero _)
theorem Rds.below {w w' : World} {v : Value} {bs : Bs} (h : Rds w v bs) (hb : Below w.heap.size w w') : Rds w' v bs := by
 rcases h with h | ⟨a, cap, rfl, hl, hc⟩
 ·exact .inl h
 ·exact .inr ⟨a, cap, rfl, fun h => Nat.lt_of_lt_of_le (hl h) hb.size, fun j u hj => (hb.cell (p := a.add j) (by rw [add_block]; exact hl (cells_ne hj))).trans (hc j u hj)⟩
theorem Rds.kept {w w' : World} {v : Value} {bs : Bs} (h : Rds w v bs) (hs : w.heap.size ≤ w'.heap.size) (hk : bs ≠ [] → ∀ g, v.ownBlock = some g → w'.heap[g]? = w.heap[g]?) : Rds w' v bs := by
 rcases h with h | ⟨a, cap, rfl, hl, hc⟩
 ·exact .inl h
 ·exact .inr ⟨a, cap, rfl, fun h => Nat.lt_of_lt_of_le (hl h) hs, fun j u hj => (World.cell?_of_block (a := a.add j) (by rw [add_block]; exact hk (cells_ne hj) a.block rfl)).trans (hc j u hj)⟩
theorem Rds.src {w : World} {v : Value} {bs : Bs} (h : Rds w v bs) : Src Tryz.prog 1 57 v bs.length (Lib.byteCells bs) w := by
 rcases h with ⟨rfl, rfl⟩ | ⟨a, cap, rfl, _, hc⟩
 ·exact Src.ofNil w Tryz.underlying57 0
 ·exact Src.ofSlice w Tryz.underlying57 a bs.length cap (Lib.byteCells bs) (by rw [Lib.byteCells_length, Nat.mul_one]) hc (Lib.byteCells_one bs)
theorem info5 : (Tryz.prog.info? 5).map (fun i : TypeInfo => (i.zero, i.size, i.bytes)) = some (some (.int .u8 0), 1, 1) := by kernel_rfl
theorem dat_new (w : World) (xs : List Value) (bs : Bs) (z : Array Value) (cap : Nat) (hx : xs = Lib.byteCells bs) (hz : z.size = 1) (h1 : bs.length ≤ cap) (h2 : cap ≤ maxLen) :
  Dat (w.drew.alloc (.cells (xs.toArray ++ Builtin.zeroCells z (cap - bs.length)) 5)) (.slice (some ⟨w.heap.size, 0, none⟩) bs.length cap) bs := by
 have hl : xs.length = bs.length := by rw [hx, Lib.byteCells_length]
 refine .inr ⟨w.heap.size, cap, _, rfl, heap_alloc_new w.drew _, h1, ?_, h2, ?_⟩
 ·simp only [Array.size_append, List.size_toArray, size_zeroCells, hz, hl]
  omega
 ·rw [Array.toList_append, ← hl, List.take_left' (by simp)]
  exact hx
set_option maxHeartbeats 1000000 in
theorem append_dat {v x : Value} {xs ys : Bs} (ty : TypeId) (w : World) (hv : Dat w v xs) (hx : Rds w x ys) (hsz : xs.length + ys.length ≤ 1099511627776) :
  ∃ v' w', (Builtin.append_ #[57, 57] ty #[v, x]).run Tryz.prog w = .ok v' w' ∧ Dat w' v' (xs ++ ys) ∧ Dat w' v xs ∧ w.grownBy w' v.ownBlock ∧ (v'.ownBlock = v.ownBlock ∨ v'.ownBlock = some w.heap.size) := by
 obtain ⟨i, hi, hz0, hz1, hz2⟩ := info_parts info5
 have hs := hx.src
 have hbl := Lib.byteCells_length ys
 have hxl := Lib.byteCells_length xs
 have hml : xs.length + ys.length ≤ maxLen := by unfold maxLen; omega
 have e3 : Lib.byteCells (xs ++ ys) = Lib.byteCells xs ++ Lib.byteCells ys := Lib.byteCells_append xs ys
 have hlen : (xs ++ ys).length = xs.length + ys.length := List.length_append
 rcases hv with ⟨rfl, rfl⟩ | ⟨g, cap, cur, rfl, hg, h1, h2, h3, h4⟩
 ·by_cases hy : ys = []
  ·subst hy
   refine ⟨.slice none 0 0, w, ?_, .inl ⟨rfl, rfl⟩, .inl ⟨rfl, rfl⟩, ⟨rfl, rfl, rfl, Nat.le_refl _, fun _ _ _ => rfl⟩, .inl rfl⟩
   rcases hx with ⟨rfl, _⟩ | ⟨a, c, rfl, _, _⟩
   ·simp [Builtin.append_, run_underlying Tryz.underlying57, sizeOf, typeInfo, hi, Builtin.lenOf, Builtin.firstCells]
   ·simp [Builtin.append_, run_underlying Tryz.underlying57, sizeOf, typeInfo, hi, Builtin.lenOf, Builtin.firstCells, loadCells, loadCellsFrom]
  ·have hpos : 0 < ys.length := List.length_pos_iff.2 hy
   have hr := run_append_grow_src w 57 57 ty 5 i (.int .u8 0) Tryz.underlying57 hi hz0 none 0 0 [] (run_firstCells_none w.drew i.size 0 0 0) x ys.length (Lib.byteCells ys) (by rw [hz1]; exact hs) (by omega) (by omega)
    (by rw [hz2]; exact growslice_fits (by omega) (by omega))
   simp only [List.nil_append, Nat.zero_add] at hr
   refine ⟨_, _, hr, ?_, .inl ⟨rfl, rfl⟩, ⟨rfl, rfl, rfl, by simp, fun k hk _ => Lib.alloc_old w.drew _ k hk⟩, .inr rfl⟩
   exact dat_new w _ ys _ _ rfl rfl (grownCap_ge _ _ _ _) (grownCap_le_maxLen _ _ _ _ (by omega))
 ·by_cases hroom : xs.length + ys.length ≤ cap
  ·rcases hx with ⟨rfl, rfl⟩ | ⟨a, c, rfl, hal, hc⟩
   ·refine ⟨_, _, run_append_room_src w 57 57 ty 5 i Tryz.underlying57 hi g 0 xs.length cap (.slice none 0 0) 0 [] (by rw [hz1]; exact hs) (by simpa using hroom) (by simp) (by simp), ?_, ?_, ⟨rfl, rfl, rfl, Nat.le_refl _, fun _ _ _ => rfl⟩, .inl rfl⟩
    ·rw [List.append_nil]
     exact .inr ⟨g, cap, cur, rfl, hg, h1, h2, h3, h4⟩
    ·exact .inr ⟨g, cap, cur, rfl, hg, h1, h2, h3, h4⟩
   ·have hr := run_append_room (P := Tryz.prog) w 57 ty 5 i Tryz.underlying57 hi g xs.length cap cur hg a ys.length c (Lib.byteCells ys) (by rw [hbl, hz1, Nat.mul_one]) hc (Lib.byteCells_one ys) hroom (by rw [hbl, hz1]; omega)
    rw [hz1, Nat.mul_one, h4] at hr
    have hcs : (Lib.byteCells xs ++ Lib.byteCells ys ++ cur.toList.drop (xs.length + (Lib.byteCells ys).length)).toArray.size = cur.size := by
     simp only [List.size_toArray, List.length_append, hxl, hbl, List.length_drop, Array.length_toList]
     omega
    refine ⟨_, _, hr, ?_, ?_, ⟨rfl, rfl, rfl, by simp, fun k _ hk => setRow_other w g k _ (fun e => hk (by simp [Value.ownBlock, e]))⟩, .inl rfl⟩
    ·refine .inr ⟨g, cap, _, by rw [hlen], setRow_heap w g cur _ 5 _ hg, by omega, by rw [hcs]; exact h2, h3, ?_⟩
     rw [e3, List.take_left' (by rw [List.length_append, hxl, hbl, hlen])]
    ·refine .inr ⟨g, cap, _, rfl, setRow_heap w g cur _ 5 _ hg, h1, by rw [hcs]; exact h2, h3, ?_⟩
     rw [List.append_assoc, List.take_left' hxl]
  ·have hold : (Builtin.firstCells i.size xs.length (.slice (some ⟨g, 0, none⟩) xs.length cap)).run Tryz.prog w.drew = .ok (Lib.byteCells xs).toArray w.drew := by
    refine run_firstCells_some w.drew i.size xs.length ⟨g, 0, none⟩ xs.length cap (Lib.byteCells xs) (by rw [hxl, hz1, Nat.mul_one]) fun j u hj => ?_
    have hD : Dat w (.slice (some ⟨g, 0, none⟩) xs.length cap) xs := .inr ⟨g, cap, cur, rfl, hg, h1, h2, h3, h4⟩
    rcases hD.rds with ⟨e, _⟩ | ⟨a', cap', e, _, hcc⟩
    ·cases e
    ·cases e
     simpa using hcc j u hj
   have hr := run_append_grow_src w 57 57 ty 5 i (.int .u8 0) Tryz.underlying57 hi hz0 (some ⟨g, 0, none⟩) xs.length cap (Lib.byteCells xs) hold x ys.length (Lib.byteCells ys) (by rw [hz1]; exact hs) (by omega) (by omega)
    (by rw [hz2]; exact growslice_fits (by omega) (by omega))
   refine ⟨_, _, hr, ?_, .inr ⟨g, cap, cur, rfl, (Lib.alloc_old w.drew _ g (lt_of_block hg)).trans hg, h1, h2, h3, h4⟩, ⟨rfl, rfl, rfl, by simp, fun k hk _ => Lib.alloc_old w.drew _ k hk⟩, .inr rfl⟩
   have := dat_new w _ (xs ++ ys) (Value.int .u8 0).cells (grownCap w (xs.length + ys.length) cap 5) e3.symm rfl (by rw [hlen]; exact grownCap_ge _ _ _ _) (grownCap_le_maxLen _ _ _ _ hml)
   rw [hlen] at this
   exact this
theorem wpList_append_dat {v x : Value} {xs ys : Bs} (w : World) {ops : Array Oper} {rest : List Oper} {o : Oper} {a : Act} {Q : Exit → Act → World → Prop} (hgd : o.guard = none) (s y : Operand)
  (ho : o.op = .call { callee := .builtin .append, args := #[s, y], argTypes := #[57, 57] }) (hs : a.eval s = v) (hy : a.eval y = x)
  (hv : Dat w v xs) (hx : Rds w x ys) (hsz : xs.length + ys.length ≤ 1099511627776)
  (h : ∀ v' w', Dat w' v' (xs ++ ys) → Dat w' v xs → w.grownBy w' v.ownBlock → (v'.ownBlock = v.ownBlock ∨ v'.ownBlock = some w.heap.size) → wpList Tryz.prog ops Q rest (a.put o.dst v') w') :
  wpList Tryz.prog ops Q (o :: rest) a w := by
 refine wpList_plain hgd fun K hK => ?_
 obtain ⟨v', w', hr, h2, h3, h4, h5⟩ := append_dat o.type w hv hx hsz
 unfold Oper.wp execOp
 simp only [ho, resolve, invoke, builtin, Sem.run_bind, Sem.run_pure, Result.andThen_ok, List.map_toArray, List.map_cons, List.map_nil, hs, hy, hr]
 exact hK _ _ (h v' w' h2 h3 h4 h5)
end Go.Proofs.YtabmnkddmdffkaaGreatDoor.Arc
namespace Go.Proofs.YtabmnkddmdffkaaGreatDoor.Arc
open Go.RowKit Go.Maps
theorem alloc_new (w : World) (o : Obj) : (w.alloc o).heap[w.heap.size]? = some o := by show (w.heap.push o)[w.heap.size]? = some o; simp
theorem size_alloc' (w : World) (o : Obj) : (w.alloc o).heap.size = w.heap.size + 1 := by simp
theorem mk_toList (p : Bs) : (mk p).toList = p := by rw [Lib.toList_data]
structure Mv where
 name : Bs
 date : Int
 dv : Value
 data : Bs
structure MRow (w : World) (g o : Nat) (ms : List Mv) : Prop where
 lt : g < w.heap.size
 c0 : ∀ i m, ms[i]? = some m → w.cell? ⟨g, o + i * 3, none⟩ = some (.string (mk m.name))
 c1 : ∀ i m, ms[i]? = some m → w.cell? ⟨g, o + i * 3 + 1, none⟩ = some (.int .i64 m.date)
 c2 : ∀ i m, ms[i]? = some m → w.cell? ⟨g, o + i * 3 + 2, none⟩ = some m.dv
def Mems (w : World) (v : Value) (ms : List Mv) : Prop :=
 ((∃ a cap, v = .slice a 0 cap) ∧ ms = []) ∨ ∃ g o cap, v = .slice (some ⟨g, o, none⟩) ms.length cap ∧ ms.length ≤ cap ∧ MRow w g o ms ∧ ∀ m ∈ ms, Rds w m.dv m.data
theorem MRow.below {w w' : World} {g o : Nat} {ms : List Mv} (h : MRow w g o ms) (hb : Below w.heap.size w w') : MRow w' g o ms :=
 ⟨Nat.lt_of_lt_of_le h.lt hb.size, fun i n hi => (hb.cell (p := ⟨g, _, none⟩) h.lt).trans (h.c0 i n hi), fun i n hi => (hb.cell (p := ⟨g, _, none⟩) h.lt).trans (h.c1 i n hi),
  fun i n hi => (hb.cell (p := ⟨g, _, none⟩) h.lt).trans (h.c2 i n hi)⟩
theorem Mems.below {w w' : World} {v : Value} {ms : List Mv} (h : Mems w v ms) (hb : Below w.heap.size w w') : Mems w' v ms := by
 rcases h with ⟨⟨a, c, rfl⟩, rfl⟩ | ⟨g, o, cap, rfl, h0, h1, h2⟩
 ·exact .inl ⟨⟨_, _, rfl⟩, rfl⟩
 ·exact .inr ⟨g, o, cap, rfl, h0, h1.below hb, fun n hn => (h2 n hn).below hb⟩
theorem Mems.len {w : World} {v : Value} {ms : List Mv} (h : Mems w v ms) : ∃ a cap, v = .slice a ms.length cap := by
 rcases h with ⟨⟨a, c, rfl⟩, rfl⟩ | ⟨g, o, cap, rfl, _⟩
 ·exact ⟨_, _, rfl⟩
 ·exact ⟨_, _, rfl⟩
def evn (n : Nat) : Nat := n + n % 2
def lng (b : Bs) : Bool := decide (15 < b.length)
def wtD (m : Mv) : Nat := 60 + evn m.data.length
def wtT (m : Mv) : Nat := if lng m.name then m.name.length + 2 else 0
def sumM (f : Mv → Nat) : List Mv → Nat
 | [] => 0
 | m :: r => f m + sumM f r
theorem sumM_append (f : Mv → Nat) (a b : List Mv) : sumM f (a ++ b) = sumM f a + sumM f b := by
 induction a with
 | nil => simp [sumM]
 | cons x r ih => simp only [List.cons_append, sumM, ih]; omega
theorem sumM_take (f : Mv → Nat) {ms : List Mv} {k : Nat} {m : Mv} (h : ms[k]? = some m) : sumM f (ms.take (k + 1)) = sumM f (ms.take k) + f m := by
 rw [List.take_add_one, h, sumM_append]
 simp [sumM]
theorem sumM_take_le (f : Mv → Nat) (ms : List Mv) (k : Nat) : sumM f (ms.take k) ≤ sumM f ms := by
 have := sumM_append f (ms.take k) (ms.drop k)
 rw [List.take_append_drop] at this
 omega
theorem sumM_mem (f : Mv → Nat) {ms : List Mv} {m : Mv} (h : m ∈ ms) : f m ≤ sumM f ms := by
 induction ms with
 | nil => cases h
 | cons x r ih =>
  rcases List.mem_cons.1 h with rfl | h
  ·simp [sumM]
  ·have := ih h; simp only [sumM]; omega
def lenA (ms : List Mv) : Nat := 8 + sumM wtD ms + (if 0 < sumM wtT ms then 60 + evn (sumM wtT ms) else 0)
def tbl : List Mv → Bs
 | [] => []
 | m :: r => (if lng m.name then m.name ++ [47, 10] else []) ++ tbl r
theorem tbl_append (a b : List Mv) : tbl (a ++ b) = tbl a ++ tbl b := by
 induction a with
 | nil => rfl
 | cons x r ih => simp only [List.cons_append, tbl, ih, List.append_assoc]
theorem tbl_take {ms : List Mv} {k : Nat} {m : Mv} (h : ms[k]? = some m) : tbl (ms.take (k + 1)) = tbl (ms.take k) ++ (if lng m.name then m.name ++ [47, 10] else []) := by
 rw [List.take_add_one, h, tbl_append]
 simp [tbl]
theorem tbl_len (ms : List Mv) : (tbl ms).length = sumM wtT ms := by
 induction ms with
 | nil => rfl
 | cons x r ih =>
  simp only [tbl, sumM, List.length_append, ih, wtT]
  split <;> simp
def nmb (b : Bs) : Bool := !b.isEmpty && decide (b.length ≤ 255) && !(b.any fun c => c == 47 || c == 0 || c == 10)
def okM (m : Mv) : Bool := nmb m.name && decide (0 ≤ m.date) && decide (m.date ≤ 999999999999)
def dec (n : Int) : Bs := Lib.itoa n
def pad (n : Nat) (b : Bs) : Bs := b ++ List.replicate (n - b.length) 32
def headB (a b c d e f : Bs) : Bs := pad 16 a ++ pad 12 b ++ pad 6 c ++ pad 6 d ++ pad 8 e ++ pad 10 f ++ [96, 10]
def dataB (d : Bs) : Bs := d ++ (if d.length % 2 = 1 then [10] else [])
def nameB (p : Nat) (b : Bs) : Bs := if lng b then 47 :: dec p else b ++ [47]
def memB (p : Nat) (m : Mv) : Bs := headB (nameB p m.name) (dec m.date) [48] [48] [49, 48, 48, 54, 52, 52] (dec m.data.length) ++ dataB m.data
def bodyB : Nat → List Mv → Bs
 | _, [] => []
 | p, m :: r => memB p m ++ bodyB (p + wtT m) r
def magicB : Bs := [33, 60, 97, 114, 99, 104, 62, 10]
def tableB (ms : List Mv) : Bs := if 0 < (tbl ms).length then headB [47, 47] [] [] [] [] (dec (tbl ms).length) ++ dataB (tbl ms) else []
def archB (ms : List Mv) : Bs := magicB ++ tableB ms ++ bodyB 0 ms
theorem bodyB_append (a b : List Mv) : ∀ p, bodyB p (a ++ b) = bodyB p a ++ bodyB (p + sumM wtT a) b := by
 induction a with
 | nil => intro p; simp [bodyB, sumM]
 | cons x r ih =>
  intro p
  simp only [List.cons_append, bodyB, ih, sumM, List.append_assoc]
  rw [Nat.add_assoc]
theorem bodyB_take {ms : List Mv} {k : Nat} {m : Mv} (h : ms[k]? = some m) : bodyB 0 (ms.take (k + 1)) = bodyB 0 (ms.take k) ++ memB (sumM wtT (ms.take k)) m := by
 rw [List.take_add_one, h, bodyB_append]
 simp [bodyB]
def wrongR (ms : List Mv) : Nat := if 5000 < ms.length ∨ 65536 < lenA ms then 2 else if ms.all okM then 0 else 1
end Go.Proofs.YtabmnkddmdffkaaGreatDoor.Arc
