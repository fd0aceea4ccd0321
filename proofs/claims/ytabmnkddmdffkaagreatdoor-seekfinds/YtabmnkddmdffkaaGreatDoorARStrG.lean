import Derived.Test.YtabmnkddmdffkaaGreatDoorARArG
import Derived.Lib.AppendStr
namespace Go.Proofs.YtabmnkddmdffkaaGreatDoor.Arc
open Go.RowKit Go.Maps
theorem ival {a b : Int} (h : a = b) : Value.int .i64 a = .int .i64 b := by rw [h]
theorem even_any (n : Nat) (h : n ≤ 1099511627776) (w : World) : Calls Tryz.prog 167 #[.int .i64 n] w fun r w' => r = .returned (.int .i64 (evn n : Nat)) ∧ w' = w := by
 have h1 : ((n : Int).tmod 2) = (n % 2 : Nat) := by rw [Int.tmod_eq_emod_of_nonneg (by omega)]; omega
 go_enter Tryz.func167, Tryz.ntmps167
 go_wp2
 go_ret
 refine ⟨ret_int ?_, rfl⟩
 unfold evn
 omega
theorem long_any (s : ByteArray) (w : World) : Calls Tryz.prog 176 #[.string s] w fun r w' => r = .returned (.bool (lng (tl s))) ∧ w' = w := by
 go_enter Tryz.func176, Tryz.ntmps176
 go_wp2
 go_ret
 refine ⟨ret_bool ?_, rfl⟩
 unfold lng
 rw [tl_len]
 simp only [decide_eq_decide]
 omega
set_option maxRecDepth 100000 in
set_option maxHeartbeats 2000000 in
theorem length_row (g o cap : Nat) (ms : List Mv) (w : World) (h : MRow w g o ms) (hr : ∀ m ∈ ms, Rds w m.dv m.data) (hl : ms.length ≤ 1099511627776) (hA : lenA ms ≤ 1099511627776) :
  Calls Tryz.prog 171 #[.slice (some ⟨g, o, none⟩) ms.length cap] w fun r w' => r = .returned (.int .i64 (lenA ms : Nat)) ∧ Below w.heap.size w w' := by
 have hD := sumM_take_le wtD ms
 have hT := sumM_take_le wtT ms
 go_enter Tryz.func171, Tryz.ntmps171
 go_wp2
 go_loopw [3, 4, 6, 9] (fun a b _ i wr => ∃ k : Nat, k ≤ ms.length ∧ i = .int .i64 k ∧ a = .int .i64 ((8 + sumM wtD (ms.take k) : Nat) : Int) ∧ b = .int .i64 (sumM wtT (ms.take k) : Nat) ∧ Below w.heap.size w wr) (fun _ _ _ i _ => ms.length - (intOf i).toNat)
 case atStart => exact ⟨0, by omega, rfl, rfl, rfl, Below.refl _ _⟩
 case round =>
  obtain ⟨k, hk, rfl, rfl, rfl, hB⟩ := hrel
  by_cases hkl : k < ms.length
  ·have k1 : (k : Int) < ms.length := by omega
   obtain ⟨m, hm⟩ : ∃ m, ms[k]? = some m := ⟨_, List.getElem?_eq_getElem hkl⟩
   have hR := h.below hB
   have d0 := hR.c0 k m hm
   have d1 := hR.c1 k m hm
   have d2 := hR.c2 k m hm
   have hmem := List.mem_of_getElem? hm
   obtain ⟨da, dc, hdv⟩ := (hr m hmem).len
   rw [hdv] at d2
   have hs1 := sumM_take wtD hm
   have hs2 := sumM_take wtT hm
   have hb1 := hD (k + 1)
   have hb2 := hT (k + 1)
   have hb3 : sumM wtD ms ≤ 1099511627776 ∧ sumM wtT ms ≤ 1099511627776 := by
    unfold lenA at hA
    unfold evn at hA
    split at hA <;> omega
   have hwd : wtD m = 60 + evn m.data.length := rfl
   have hml : m.data.length ≤ evn m.data.length := by unfold evn; omega
   have qe := fun w => even_any m.data.length (by omega) w
   have ql := fun w => long_any (mk m.name) w
   rw [tl_mk] at ql
   obtain ⟨x, hx⟩ : ∃ x, x = sumM wtD (ms.take k) := ⟨_, rfl⟩
   obtain ⟨y, hy⟩ : ∃ y, y = sumM wtT (ms.take k) := ⟨_, rfl⟩
   obtain ⟨e, he⟩ : ∃ e, e = evn m.data.length := ⟨_, rfl⟩
   have hst : ∀ t, t = wtT m → 8 + sumM wtD (ms.take (k + 1)) = 8 + (x + (60 + e)) ∧ sumM wtT (ms.take (k + 1)) = y + t := fun t ht => by rw [hs1, hs2, hwd, ht, hx, hy, he]; exact ⟨rfl, rfl⟩
   have HS := hide' hst
   rw [← hx, ← hy]
   rw [← he] at qe
   have hxe : x + (60 + e) ≤ 1099511627776 := by rw [hs1, hwd, ← hx, ← he] at hb1; omega
   have hyb : y + wtT m ≤ 1099511627776 := by rw [hs2, ← hy] at hb2; omega
   have hwt : wtT m = if lng m.name then m.name.length + 2 else 0 := rfl
   have HB := hide' hB
   clear hR h hr hD hT hs1 hs2 hb1 hb2 hb3 hwd hml hst hx hy he hA hB hm hmem
   cases hlg : lng m.name with
   | false =>
    rw [hlg] at ql hwt
    go_wp2_with fail
    refine (qe _).mono ?_
    rintro r w1 ⟨rfl, rfl⟩
    go_wp2_with fail
    refine (ql _).mono ?_
    rintro r w1 ⟨rfl, rfl⟩
    have hs := HS.out 0 (by rw [hwt]; rfl)
    have HS2 := hide' hs
    clear hs HS
    go_wp2
    exact ⟨⟨k + 1, by omega, by simp, ival (by rw [HS2.out.1]; omega), ival (by rw [HS2.out.2]; omega), HB.out.alloc HB.out.size _⟩, by simp [intOf]; omega⟩
   | true =>
    rw [hlg] at ql hwt
    rw [if_pos rfl] at hwt
    rw [hwt] at hyb
    go_wp2_with fail
    refine (qe _).mono ?_
    rintro r w1 ⟨rfl, rfl⟩
    go_wp2_with fail
    refine (ql _).mono ?_
    rintro r w1 ⟨rfl, rfl⟩
    have hs := HS.out _ hwt.symm
    have HS2 := hide' hs
    clear hs HS
    go_wp2
    exact ⟨⟨k + 1, by omega, by simp, ival (by rw [HS2.out.1]; omega), ival (by rw [HS2.out.2]; omega), HB.out.alloc HB.out.size _⟩, by simp [intOf]; omega⟩
  ·obtain rfl : k = ms.length := by omega
   have k1 : ¬ (ms.length : Int) < ms.length := by omega
   rw [List.take_length]
   have hLA : lenA ms = 8 + sumM wtD ms + (if 0 < sumM wtT ms then 60 + evn (sumM wtT ms) else 0) := rfl
   clear hD hT h hr
   generalize sumM wtD ms = x at *
   generalize sumM wtT ms = y at *
   by_cases hy : 0 < y
   ·rw [if_pos hy] at hLA
    have hye : y ≤ evn y := by unfold evn; omega
    have qe := fun w => even_any y (by omega) w
    generalize evn y = e at *
    go_wp2_with fail
    refine (qe _).mono ?_
    rintro r w1 ⟨rfl, rfl⟩
    go_wp2
    go_ret
    exact ⟨ret_int (by omega), hB⟩
   ·rw [if_neg hy] at hLA
    have hy2 : ¬ (0 : Int) < y := by omega
    go_wp2
    go_ret
    exact ⟨ret_int (by omega), hB⟩
set_option maxRecDepth 100000 in
theorem length_nil (a : Option Addr) (c : Nat) (w : World) : Calls Tryz.prog 171 #[.slice a 0 c] w fun r w' => r = .returned (.int .i64 8) ∧ w' = w := by
 go_enter Tryz.func171, Tryz.ntmps171
 go_wp2
 go_loopw [3, 4, 6, 9] (fun a b _ i wr => i = .int .i64 0 ∧ a = .int .i64 8 ∧ b = .int .i64 0 ∧ wr = w) (fun _ _ _ _ _ => 0)
 case atStart => exact ⟨rfl, rfl, rfl, rfl⟩
 case round =>
  obtain ⟨rfl, rfl, rfl, rfl⟩ := hrel
  go_wp2
  go_ret
  exact ⟨rfl, rfl⟩
theorem length_any (v : Value) (ms : List Mv) (w : World) (h : Mems w v ms) (hl : ms.length ≤ 1099511627776) (hA : lenA ms ≤ 1099511627776) :
  Calls Tryz.prog 171 #[v] w fun r w' => r = .returned (.int .i64 (lenA ms : Nat)) ∧ Below w.heap.size w w' := by
 rcases h with ⟨⟨a, c, rfl⟩, rfl⟩ | ⟨g, o, cap, rfl, h0, h1, h2⟩
 ·exact (length_nil a c w).mono fun r w' ⟨hr, hw⟩ => ⟨hr, by rw [hw]; exact Below.refl _ _⟩
 ·exact length_row g o cap ms w h1 h2 hl hA
end Go.Proofs.YtabmnkddmdffkaaGreatDoor.Arc
namespace Go.Proofs.YtabmnkddmdffkaaGreatDoor.Arc
open Go.RowKit Go.Maps
theorem cells_tl (s : ByteArray) : byteCells s = Lib.byteCells (tl s) := rfl
theorem strCells_tl (s : ByteArray) : Lib.strCells s = Lib.byteCells (tl s) := rfl
set_option maxHeartbeats 1000000 in
theorem append_str {v : Value} {xs : Bs} (s : ByteArray) (ty : TypeId) (w : World) (hv : Dat w v xs) (hsz : xs.length + s.size ≤ 1099511627776) :
  ∃ v' w', (Builtin.append_ #[57, 9] ty #[v, .string s]).run Tryz.prog w = .ok v' w' ∧ Dat w' v' (xs ++ tl s) ∧ w.grownBy w' v.ownBlock ∧ (v'.ownBlock = v.ownBlock ∨ v'.ownBlock = some w.heap.size) := by
 obtain ⟨i, hi, hz0, hz1, hz2⟩ := info_parts info5
 have hs := Src.ofString (P := Tryz.prog) w Tryz.underlying9 s
 rw [cells_tl] at hs
 have hbl := Lib.byteCells_length (tl s)
 have hxl := Lib.byteCells_length xs
 have hsl := tl_len s
 have hml : xs.length + s.size ≤ maxLen := by unfold maxLen; omega
 have e3 : Lib.byteCells (xs ++ tl s) = Lib.byteCells xs ++ Lib.byteCells (tl s) := Lib.byteCells_append xs (tl s)
 have hlen : (xs ++ tl s).length = xs.length + s.size := by rw [List.length_append, hsl]
 rcases hv with ⟨rfl, rfl⟩ | ⟨g, cap, cur, rfl, hg, h1, h2, h3, h4⟩
 ·by_cases hy : tl s = []
  ·have h0 : s.size = 0 := by rw [← hsl, hy]; rfl
   refine ⟨.slice none 0 0, w, ?_, .inl ⟨rfl, by rw [hy]; rfl⟩, ⟨rfl, rfl, rfl, Nat.le_refl _, fun _ _ _ => rfl⟩, .inl rfl⟩
   have hce := hs.cells
   rw [hy, h0] at hce
   simp [Builtin.append_, run_underlying Tryz.underlying57, run_underlying Tryz.underlying9, sizeOf, typeInfo, hi, Builtin.lenOf, h0, hz1, hce, Lib.byteCells]
  ·have hpos : 0 < s.size := by rw [← hsl]; exact List.length_pos_iff.2 hy
   have hr := run_append_grow_src w 57 9 ty 5 i (.int .u8 0) Tryz.underlying57 hi hz0 none 0 0 [] (run_firstCells_none w.drew i.size 0 0 0) (.string s) s.size (Lib.byteCells (tl s)) (by rw [hz1]; exact hs) (by omega) (by omega)
    (by rw [hz2]; exact growslice_fits (by omega) (by omega))
   simp only [List.nil_append, Nat.zero_add] at hr
   refine ⟨_, _, hr, ?_, ⟨rfl, rfl, rfl, by simp, fun k hk _ => Lib.alloc_old w.drew _ k hk⟩, .inr rfl⟩
   have := dat_new w _ (tl s) (Value.int .u8 0).cells (grownCap w s.size 0 5) rfl rfl (by rw [hsl]; exact grownCap_ge _ _ _ _) (grownCap_le_maxLen _ _ _ _ (by omega))
   rw [hsl] at this
   exact this
 ·by_cases hroom : xs.length + s.size ≤ cap
  ·have hr := Lib.run_append_room_string (P := Tryz.prog) w 57 9 ty 5 i Tryz.underlying57 Tryz.underlying9 hi hz1 g xs.length cap cur hg s hroom (by omega)
   rw [h4, strCells_tl] at hr
   have hcs : (Lib.byteCells xs ++ Lib.byteCells (tl s) ++ cur.toList.drop (xs.length + s.size)).toArray.size = cur.size := by
    simp only [List.size_toArray, List.length_append, hxl, hbl, List.length_drop, Array.length_toList]
    omega
   refine ⟨_, _, hr, ?_, ⟨rfl, rfl, rfl, by simp, fun k _ hk => setRow_other w g k _ (fun e => hk (by simp [Value.ownBlock, e]))⟩, .inl rfl⟩
   refine .inr ⟨g, cap, _, by rw [hlen], setRow_heap w g cur _ 5 _ hg, by omega, by rw [hcs]; exact h2, h3, ?_⟩
   rw [e3, List.take_left' (by rw [List.length_append, hxl, hbl, hlen, hsl])]
  ·have hold : (Builtin.firstCells i.size xs.length (.slice (some ⟨g, 0, none⟩) xs.length cap)).run Tryz.prog w.drew = .ok (Lib.byteCells xs).toArray w.drew := by
    refine run_firstCells_some w.drew i.size xs.length ⟨g, 0, none⟩ xs.length cap (Lib.byteCells xs) (by rw [hxl, hz1, Nat.mul_one]) fun j u hj => ?_
    have hD : Dat w (.slice (some ⟨g, 0, none⟩) xs.length cap) xs := .inr ⟨g, cap, cur, rfl, hg, h1, h2, h3, h4⟩
    rcases hD.rds with ⟨e, _⟩ | ⟨a', cap', e, _, hcc⟩
    ·cases e
    ·cases e
     simpa using hcc j u hj
   have hr := run_append_grow_src w 57 9 ty 5 i (.int .u8 0) Tryz.underlying57 hi hz0 (some ⟨g, 0, none⟩) xs.length cap (Lib.byteCells xs) hold (.string s) s.size (Lib.byteCells (tl s)) (by rw [hz1]; exact hs) (by omega) (by omega)
    (by rw [hz2]; exact growslice_fits (by omega) (by omega))
   refine ⟨_, _, hr, ?_, ⟨rfl, rfl, rfl, by simp, fun k hk _ => Lib.alloc_old w.drew _ k hk⟩, .inr rfl⟩
   have := dat_new w _ (xs ++ tl s) (Value.int .u8 0).cells (grownCap w (xs.length + s.size) cap 5) e3.symm rfl (by rw [hlen]; exact grownCap_ge _ _ _ _) (grownCap_le_maxLen _ _ _ _ hml)
   rw [hlen] at this
   exact this
theorem wpList_append_str {v : Value} {xs : Bs} {s : ByteArray} (w : World) {ops : Array Oper} {rest : List Oper} {o : Oper} {a : Act} {Q : Exit → Act → World → Prop} (hgd : o.guard = none) (x y : Operand)
  (ho : o.op = .call { callee := .builtin .append, args := #[x, y], argTypes := #[57, 9] }) (hx : a.eval x = v) (hy : a.eval y = .string s)
  (hv : Dat w v xs) (hsz : xs.length + s.size ≤ 1099511627776)
  (h : ∀ v' w', Dat w' v' (xs ++ tl s) → w.grownBy w' v.ownBlock → (v'.ownBlock = v.ownBlock ∨ v'.ownBlock = some w.heap.size) → wpList Tryz.prog ops Q rest (a.put o.dst v') w') :
  wpList Tryz.prog ops Q (o :: rest) a w := by
 refine wpList_plain hgd fun K hK => ?_
 obtain ⟨v', w', hr, h2, h4, h5⟩ := append_str s o.type w hv hsz
 unfold Oper.wp execOp
 simp only [ho, resolve, invoke, builtin, Sem.run_bind, Sem.run_pure, Result.andThen_ok, List.map_toArray, List.map_cons, List.map_nil, hx, hy, hr]
 exact hK _ _ (h v' w' h2 h4 h5)
theorem Dat.form {w : World} {v : Value} {bs : Bs} (h : Dat w v bs) : ∃ a n cap, v = .slice a n cap := by
 obtain ⟨a, cap, e⟩ := h.len
 exact ⟨a, _, cap, e⟩
theorem byte_rds (w : World) (b : UInt8) : Rds (w.alloc (.cells #[.int .u8 (b.toNat : Nat)] 5)) (.slice (some ⟨w.heap.size, 0, none⟩) 1 1) [b] := by
 refine .inr ⟨⟨w.heap.size, 0, none⟩, 1, rfl, fun _ => lt_of_block (alloc_new _ _), fun j u hj => ?_⟩
 rw [add_zero]
 rcases j with _ | j
 ·cases hj; rw [Lib.cell_of_heap (alloc_new _ _)]; rfl
 ·simp [Lib.byteCells] at hj
def OwnB (N : Nat) (v : Value) : Prop := ∀ g, v.ownBlock = some g → N ≤ g
theorem OwnB.nil (N : Nat) : OwnB N (.slice none 0 0) := fun g h => (by cases h)
theorem OwnB.step {N : Nat} {w : World} {v v' : Value} (h : OwnB N v) (hN : N ≤ w.heap.size) (ho : v'.ownBlock = v.ownBlock ∨ v'.ownBlock = some w.heap.size) : OwnB N v' := fun g hg => by
 rcases ho with e | e
 ·exact h g (e ▸ hg)
 ·rw [hg] at e; have := Option.some.inj e; omega
theorem below_own {N : Nat} {w0 w w' : World} {v : Value} (hb : Below N w0 w) (h : OwnB N v) (hg : w.grownBy w' v.ownBlock) (hN : N ≤ w.heap.size) : Below N w0 w' :=
 hb.trans ⟨hg.os, hg.tape, hg.output, hg.size, fun k hk => hg.block k (by omega) fun e => by have := h k e.symm; omega⟩
structure Grw (w0 : World) (b0 : Option Nat) (w : World) (v : Value) : Prop where
 tr : Turn (fun i => b0 = some i) w0 w
 ow : v.ownBlock = b0 ∨ ∀ g, v.ownBlock = some g → w0.heap.size ≤ g
theorem Grw.refl (w : World) (v : Value) : Grw w v.ownBlock w v := ⟨Turn.refl _ _, .inl rfl⟩
theorem Grw.step {w0 w w' : World} {b0 : Option Nat} {v v' : Value} (h : Grw w0 b0 w v) (hg : w.grownBy w' v.ownBlock) (ho : v'.ownBlock = v.ownBlock ∨ v'.ownBlock = some w.heap.size) : Grw w0 b0 w' v' := by
 refine ⟨h.tr.trans (Turn.of_grown (S := fun i => v.ownBlock = some i) hg fun k e => e) fun i hi => ?_, ?_⟩
 ·rcases h.ow with e | e
  ·exact .inl (e ▸ hi)
  ·exact .inr (e i hi)
 ·rcases ho with e | e
  ·rw [e]; exact h.ow
  ·refine .inr fun g hg => ?_
   rw [e] at hg
   have := Option.some.inj hg
   have := h.tr.size
   omega
theorem Grw.alloc {w0 w : World} {b0 : Option Nat} {v : Value} (h : Grw w0 b0 w v) (o : Obj) : Grw w0 b0 (w.alloc o) v := ⟨h.tr.alloc o, h.ow⟩
theorem Grw.below {w0 w : World} {b0 : Option Nat} {v : Value} (h : Grw w0 b0 w v) {N : Nat} (hN : N ≤ w0.heap.size) (hO : ∀ g, b0 = some g → N ≤ g) : Below N w0 w := h.tr.below hN fun i hi => hO i hi
theorem Grw.own {w0 w : World} {b0 : Option Nat} {v : Value} (h : Grw w0 b0 w v) {N : Nat} (hN : N ≤ w0.heap.size) (hO : ∀ g, b0 = some g → N ≤ g) : OwnB N v := fun g hg => by
 rcases h.ow with e | e
 ·exact hO g (e ▸ hg)
 ·exact Nat.le_trans hN (e g hg)
set_option maxRecDepth 100000 in
set_option maxHeartbeats 2000000 in
theorem table_row (g o cap : Nat) (ms : List Mv) (w : World) (h : MRow w g o ms) (hr : ∀ m ∈ ms, Rds w m.dv m.data) (hl : ms.length ≤ 1099511627776) (hA : sumM wtT ms ≤ 1000000000) :
  Calls Tryz.prog 172 #[.slice (some ⟨g, o, none⟩) ms.length cap] w fun r w' => (∃ v, r = .returned v ∧ Dat w' v (tbl ms) ∧ OwnB w.heap.size v) ∧ Below w.heap.size w w' := by
 have hT := sumM_take_le wtT ms
 go_enter Tryz.func172, Tryz.ntmps172
 go_wp2
 go_loopw [3, 5, 8] (fun t _ i wr => ∃ k : Nat, k ≤ ms.length ∧ i = .int .i64 k ∧ Dat wr t (tbl (ms.take k)) ∧ OwnB w.heap.size t ∧ Below w.heap.size w wr) (fun _ _ i _ => ms.length - (intOf i).toNat)
 case atStart => exact ⟨0, by omega, rfl, .inl ⟨rfl, rfl⟩, OwnB.nil _, Below.refl _ _⟩
 case round =>
  obtain ⟨k, hk, rfl, hD, hO, hB⟩ := hrel
  by_cases hkl : k < ms.length
  ·have k1 : (k : Int) < ms.length := by omega
   obtain ⟨m, hm⟩ : ∃ m, ms[k]? = some m := ⟨_, List.getElem?_eq_getElem hkl⟩
   have hR := h.below hB
   have d0 := hR.c0 k m hm
   have d1 := hR.c1 k m hm
   have d2 := hR.c2 k m hm
   have hmem := List.mem_of_getElem? hm
   obtain ⟨da, dc, hdv⟩ := (hr m hmem).len
   rw [hdv] at d2
   have hs2 := sumM_take wtT hm
   have hb2 := hT (k + 1)
   have hst := tbl_take hm
   have htl := tbl_len (ms.take k)
   have hbd : (tbl (ms.take k)).length + wtT m ≤ 1000000000 := by omega
   have ql := fun w => long_any (mk m.name) w
   rw [tl_mk] at ql
   obtain ⟨t, ht⟩ : ∃ t, t = tbl (ms.take k) := ⟨_, rfl⟩
   rw [← ht] at hst hD hbd
   have HS := hide' hst
   have HB := hide' hB
   have hwt : wtT m = if lng m.name then m.name.length + 2 else 0 := rfl
   have hb1 : ∀ o, Below w.heap.size w (wr.alloc o) := fun o => hB.alloc hB.size o
   have hD1 : ∀ o, Dat (wr.alloc o) u3 t := fun o => hD.kept fun g hg => Below.heap_alloc wr o g (hD.lt g hg)
   have hsw := hB.size
   clear hR h hr hT hs2 hb2 hst hB hm hmem htl ht
   cases hlg : lng m.name with
   | false =>
    rw [hlg] at ql hwt
    rw [hlg] at HS
    go_wp2_with fail
    refine (ql _).mono ?_
    rintro r w1 ⟨rfl, rfl⟩
    go_wp2
    refine ⟨⟨k + 1, by omega, by simp, ?_, hO, hb1 _⟩, by simp [intOf]; omega⟩
    rw [HS.out]
    simpa using hD1 _
   | true =>
    rw [hlg] at ql hwt
    rw [hlg] at HS
    rw [if_pos rfl] at hwt
    rw [hwt] at hbd
    go_wp2_with fail
    refine (ql _).mono ?_
    rintro r w1 ⟨rfl, hw1⟩
    have hDw : Dat w1 u3 t := by rw [hw1]; exact hD1 _
    have hBw : Below w.heap.size w w1 := by rw [hw1]; exact hb1 _
    have hc0 : w1.cell? ⟨wr.heap.size, 0, none⟩ = some (.string (mk m.name)) := by rw [hw1, Lib.cell_of_heap (alloc_new _ _)]; rfl
    clear hw1 hD1 hb1
    go_wp2_with (at_builtin; refine wpList_append_str _ rfl _ _ rfl rfl rfl hDw (by rw [mk_size]; omega) ?_)
    intro v2 w2 hD2 hg2 ho2
    have hO2 : OwnB w.heap.size v2 := hO.step hBw.size ho2
    have hB2 := below_own hBw hO hg2 hBw.size
    rw [tl_mk] at hD2
    go_wp2_with (at_builtin; refine wpList_append_str _ rfl _ _ rfl rfl rfl hD2 (by rw [List.length_append]; show _ + 2 ≤ _; omega) ?_)
    intro v3 w3 hD3 hg3 ho3
    have hO3 : OwnB w.heap.size v3 := hO2.step hB2.size ho3
    have hB3 := below_own hB2 hO2 hg3 hB2.size
    go_wp2
    refine ⟨⟨k + 1, by omega, by simp, ?_, hO3, hB3⟩, by simp [intOf]; omega⟩
    rw [HS.out, if_pos trivial]
    exact hD3
  ·obtain rfl : k = ms.length := by omega
   have k1 : ¬ (ms.length : Int) < ms.length := by omega
   rw [List.take_length] at hD
   obtain ⟨a, c, hv⟩ := hD.len
   subst hv
   go_wp2
   go_ret
   exact ⟨⟨_, rfl, hD, hO⟩, hB⟩
set_option maxRecDepth 100000 in
theorem table_nil (a : Option Addr) (c : Nat) (w : World) : Calls Tryz.prog 172 #[.slice a 0 c] w fun r w' => r = .returned (.slice none 0 0) ∧ w' = w := by
 go_enter Tryz.func172, Tryz.ntmps172
 go_wp2
 go_loopw [3, 5, 8] (fun t _ i wr => i = .int .i64 0 ∧ t = .slice none 0 0 ∧ wr = w) (fun _ _ _ _ => 0)
 case atStart => exact ⟨rfl, rfl, rfl⟩
 case round =>
  obtain ⟨rfl, rfl, rfl⟩ := hrel
  go_wp2
  go_ret
  exact ⟨rfl, rfl⟩
theorem table_any (v : Value) (ms : List Mv) (w : World) (h : Mems w v ms) (hl : ms.length ≤ 1099511627776) (hA : sumM wtT ms ≤ 1000000000) :
  Calls Tryz.prog 172 #[v] w fun r w' => (∃ v, r = .returned v ∧ Dat w' v (tbl ms) ∧ OwnB w.heap.size v) ∧ Below w.heap.size w w' := by
 rcases h with ⟨⟨a, c, rfl⟩, rfl⟩ | ⟨g, o, cap, rfl, h0, h1, h2⟩
 ·exact (table_nil a c w).mono fun r w' ⟨hr, hw⟩ => ⟨⟨_, hr, .inl ⟨rfl, rfl⟩, OwnB.nil _⟩, by rw [hw]; exact Below.refl _ _⟩
 ·exact table_row g o cap ms w h1 h2 hl hA
set_option maxRecDepth 100000 in
set_option maxHeartbeats 2000000 in
theorem adata_any (v x : Value) (bs d : Bs) (w : World) (hv : Dat w v bs) (hx : Rds w x d) (hsz : bs.length + d.length ≤ 1000000000) :
  Calls Tryz.prog 175 #[v, x] w fun r w' => ∃ v', r = .returned v' ∧ Dat w' v' (bs ++ dataB d) ∧ Grw w v.ownBlock w' v' := by
 obtain ⟨xa, xc, rfl⟩ := hx.len
 have qe := fun w => even_any d.length (by omega) w
 obtain ⟨e, he⟩ : ∃ e, e = evn d.length := ⟨_, rfl⟩
 rw [← he] at qe
 go_enter Tryz.func175, Tryz.ntmps175
 go_wp2_with (at_builtin; refine wpList_append_dat _ rfl _ _ rfl rfl rfl hv hx (by omega) ?_)
 intro v2 w2 hD2 _ hg2 ho2
 have hG2 := (Grw.refl w v).step hg2 ho2
 go_wp2_with fail
 refine (qe _).mono ?_
 rintro r w3 ⟨rfl, rfl⟩
 by_cases hev : d.length % 2 = 1
 ·have h1 : (d.length : Int) < e := by rw [he]; unfold evn; omega
  have hDB : dataB d = d ++ [10] := by unfold dataB; rw [if_pos hev]
  clear qe he
  have hb4 : Below w3.heap.size w3 (w3.alloc (.cells #[.int .u8 10] 5)) := (Below.refl _ _).alloc (Nat.le_refl _) _
  have hD4 := hD2.kept fun g hg => hb4.block g (hD2.lt g hg)
  have hr4 := byte_rds w3 10
  have hG4 := hG2.alloc (.cells #[.int .u8 10] 5)
  have hln : (bs ++ d).length + 1 ≤ 1099511627776 := by rw [List.length_append]; omega
  go_wp2_with (at_builtin; refine wpList_append_dat _ rfl _ _ rfl rfl rfl hD4 hr4 hln ?_)
  intro v5 w5 hD5 _ hg5 ho5
  have hG5 := hG4.step hg5 (by first | exact ho5 | (rw [size_alloc']; exact ho5))
  rw [← hDB] at hD5
  obtain ⟨a5, n5, c5, hv5⟩ := hD5.form
  subst hv5
  go_wp2
  go_ret
  exact ⟨_, rfl, hD5, hG5⟩
 ·have h1 : ¬ (d.length : Int) < e := by rw [he]; unfold evn; omega
  have hDB : dataB d = d := by unfold dataB; rw [if_neg hev, List.append_nil]
  have hD2 : Dat w3 v2 (bs ++ dataB d) := by rw [hDB]; exact hD2
  obtain ⟨a2, n2, c2, hv2⟩ := hD2.form
  subst hv2
  clear qe he
  go_wp2
  go_ret
  exact ⟨_, rfl, hD2, hG2⟩
end Go.Proofs.YtabmnkddmdffkaaGreatDoor.Arc
