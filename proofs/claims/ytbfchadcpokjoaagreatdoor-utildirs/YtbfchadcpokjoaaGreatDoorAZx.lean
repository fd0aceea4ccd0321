/- Bytes as a text and a text as bytes. print. piecesOf of the law's format. text.Decimal of a number of one digit. round. -/
import Derived.Test.YtbfchadcpokjoaaGreatDoorAZp
import Derived.Test.YtbfchadcpokjoaaGreatDoorAZu
import Derived.Lib.SlBytesRow
import Derived.Lib.BufferRead
import Derived.Lib.ConvBytes
import Derived.Test.YtbfchadcpokjoaaGreatDoorAZf
import Derived.Deep.AppendLies
import Derived.Test.YtbfchadcpokjoaaGreatDoorAZv
import Derived.BigQuiet
namespace Go.Proofs.YtbfchadcpokjoaaGreatDoor
open Go.RowKit Go.Maps

theorem nums_mk (bs : Bs) : strOfNums (bs.map fun x => (x.toNat : Int)) = mk bs := by
  apply ByteArray.ext
  apply Array.toList_inj.1
  rw [strOfNums_data, List.map_map]
  show _ = bs
  conv => rhs; rw [← List.map_id bs]
  apply List.map_congr_left
  intro x _
  simp
theorem rds_str {w : World} {v : Value} {bs : Bs} (h : Rds w v bs) : (convert 33 9 v).run Tryz.prog w = .ok (.string (mk bs)) w := by
  rcases h with ⟨rfl, rfl⟩ | ⟨a, cap, rfl, _, hc⟩
  · exact Lib.run_convert_nil_bytes w 33 9 5 0 Tryz.underlying33 Tryz.underlying5 Tryz.underlying9
  · have hx : Lib.byteCells bs = (bs.map fun x => (x.toNat : Int)).map (Value.int .u8) := by rw [List.map_map]; rfl
    have hl : (loadCells a bs.length).run Tryz.prog w = .ok ((bs.map fun x => (x.toNat : Int)).map (Value.int .u8)).toArray w := by
      have := run_loadCells_list (P := Tryz.prog) w a (Lib.byteCells bs) hc
      rw [Lib.byteCells_length, hx] at this
      exact this
    rw [run_convert_bytes_string w 33 9 5 _ bs.length cap Tryz.underlying33 Tryz.underlying5 Tryz.underlying9, run_bytesToString w _ bs.length cap _ hl, foldl_push_bytes, ← nums_mk]
    simp [strOfNums, ByteArray.empty, ByteArray.emptyWithCapacity]
    rfl
/-- a text's bytes in a new row -/
theorem conv_new (w : World) (x : Bs) : (convert 9 33 (.string (mk x))).run Tryz.prog w = .ok (.slice (some ⟨w.heap.size, 0, none⟩) x.length (grownCap w x.length 0 5)) (Lib.bytesWorld w 5 (mk x)) ∧ Below w.heap.size w (Lib.bytesWorld w 5 (mk x)) := by
  have h1 := Lib.run_convert_string_bytes (P := Tryz.prog) w 9 33 5 (mk x) Tryz.underlying9 Tryz.underlying33 Tryz.underlying5
  rw [mk_size] at h1
  have h2 : Below w.heap.size w w.drew := below_drewn (B := w.heap.size) (w := w) 1
  exact ⟨h1, h2.os, h2.tape, h2.output, by rw [Lib.bytesWorld_size]; omega, fun j hj => Lib.bytesWorld_at_old w 5 (mk x) j hj⟩
/-- the new row's bytes -/
theorem conv_rds (w : World) (x : Bs) : Rds (Lib.bytesWorld w 5 (mk x)) (.slice (some ⟨w.heap.size, 0, none⟩) x.length (grownCap w x.length 0 5)) x ∧ x.length ≤ grownCap w x.length 0 5 := by
  refine ⟨.inr ⟨⟨w.heap.size, 0, none⟩, _, rfl, fun _ => by rw [Lib.bytesWorld_size]; exact Nat.lt_succ_self _, fun j u hj => ?_⟩, ?_⟩
  · have hlt : j < x.length := by have := (List.getElem?_eq_some_iff.1 hj).1; rwa [Lib.byteCells_length] at this
    have h := Lib.bytesWorld_cell w 5 (mk x) j (by rw [mk_size]; exact hlt)
    rw [add_zero, h, ← hj]
    unfold Lib.byteCells
    rw [List.getElem?_map, List.getElem?_eq_getElem hlt]
    show some (Value.int .u8 ((x.getD j 0).toNat : Int)) = _
    rw [List.getD_eq_getElem?_getD, List.getElem?_eq_getElem hlt]
    rfl
  · exact grownCap_ge _ _ _ _
end Go.Proofs.YtbfchadcpokjoaaGreatDoor
namespace Go.Proofs.YtbfchadcpokjoaaGreatDoor
open Go.RowKit Go.Maps

theorem rds_take {w : World} {v : Value} {ys : Bs} (h : Rds w v ys) (hc : ∀ a n c, v = .slice a n c → n ≤ c) {k : Nat} (hk : k ≤ ys.length) :
    ∃ a c, (∀ W : World, (Instr.slice 33 v none (some (.int .i64 k)) none).run Tryz.prog W = .ok (.slice a k c) W) ∧ Rds w (.slice a k c) (ys.take k) := by
  obtain ⟨i, hi, hz0, hz1, hz2⟩ := info_parts info5
  rcases h with ⟨rfl, rfl⟩ | ⟨a, cap, rfl, hb, hcl⟩
  · obtain rfl : k = 0 := by simpa using hk
    exact ⟨none, 0, fun W => by simp [Instr.slice, Instr.sliceBounds, Instr.sliceBound, asIntOf, run_underlying Tryz.underlying33, sizeOf, typeInfo, hi], .inl ⟨rfl, rfl⟩⟩
  · have hcap := hc _ _ _ rfl
    have ha : a.add 0 = a := by cases a; rfl
    refine ⟨some a, cap, fun W => ?_, .inr ⟨a, cap, by rw [List.length_take, Nat.min_eq_left hk], fun hne => hb fun e => hne (by rw [e]; simp), fun j u hj => ?_⟩⟩
    · simp [Instr.slice, Instr.sliceBounds, Instr.sliceBound, asIntOf, run_underlying Tryz.underlying33, sizeOf, typeInfo, hi, ha]
      omega
    · have hlt : j < k := by
        have := (List.getElem?_eq_some_iff.1 hj).1
        rw [Lib.byteCells_length, List.length_take] at this
        omega
      refine hcl j u ?_
      rw [← hj]
      unfold Lib.byteCells
      rw [List.getElem?_map, List.getElem?_map, List.getElem?_take_of_lt hlt]
theorem wp_append33 {v x : Value} {xs ys : Bs} (w : World) {o : Oper} {a : Act} {K : Act → World → Prop} {Q : Exit → Act → World → Prop} (s y : Operand)
    (ho : o.op = .call { callee := .builtin .append, args := #[s, y], argTypes := #[33, 33] }) (hs : a.eval s = v) (hy : a.eval y = x)
    (hv : Dat w v xs) (hx : Rds w x ys) (hsz : xs.length + ys.length ≤ 1099511627776)
    (h : ∀ v' w', Dat w' v' (xs ++ ys) → w.grownBy w' v.ownBlock → (v'.ownBlock = v.ownBlock ∨ v'.ownBlock = some w.heap.size) → K (a.put o.dst v') w') :
    o.wp Tryz.prog a w K Q := by
  obtain ⟨v', w', hr, h2, _, h4, h5⟩ := append_dat o.type w hv hx hsz
  unfold Oper.wp execOp
  simp only [ho, resolve, invoke, builtin, Sem.run_bind, Sem.run_pure, Result.andThen_ok, List.map_toArray, List.map_cons, List.map_nil, hs, hy, hr]
  exact h v' w' h2 h4 h5
structure PrC (C : Nat) (ov : Value) (w : World) : Prop where
  c3 : w.cell? ⟨C, 3, none⟩ = some ov
set_option maxRecDepth 100000 in
set_option maxHeartbeats 4000000 in
theorem print_any (C : Nat) (fv y iv ov pv : Value) (xs ys : Bs) (w : World) (h : CallAt w C fv y iv ov) (hd : Dat w ov xs) (hx : Rds w pv ys) (hpc : ∀ a n c, pv = .slice a n c → n ≤ c) (hl : xs.length ≤ 65536) (hyl : ys.length ≤ 1099511) (hn : ov.ownBlock ≠ some C) :
    Calls Tryz.prog 79 #[.pointer (some ⟨C, 0, none⟩), pv] w fun r w' => ∃ ov', r = .returned (.tuple #[]) ∧ CallAt w' C fv y iv ov' ∧ Dat w' ov' (xs ++ ys.take (65536 - xs.length)) ∧ (ov'.ownBlock = ov.ownBlock ∨ ov'.ownBlock = some w.heap.size) ∧ Turn (fun i => i = C ∨ ov.ownBlock = some i) w w' := by
  obtain ⟨oa, oc, hov⟩ := hd.len
  obtain ⟨pa, pc, hpv⟩ : ∃ a c, pv = .slice a ys.length c := by
    rcases hx with ⟨e1, e2⟩ | ⟨a, c, e1, _⟩
    · exact ⟨none, 0, by rw [e1, e2]; rfl⟩
    · exact ⟨_, _, e1⟩
  obtain ⟨k, hk⟩ : ∃ k, k = min (65536 - xs.length) ys.length := ⟨_, rfl⟩
  have hky : k ≤ ys.length := by omega
  obtain ⟨sa, sc, hsl, hsr⟩ := rds_take hx hpc hky
  have e1 : ys.take k = ys.take (65536 - xs.length) := by
    rw [hk]
    by_cases hle : 65536 - xs.length ≤ ys.length
    · rw [Nat.min_eq_left hle]
    · rw [Nat.min_eq_right (by omega), List.take_of_length_le (Nat.le_refl _), List.take_of_length_le (by omega)]
  rw [e1] at hsr
  subst hov hpv
  have hmin : min (65536 - (xs.length : Int)) ys.length = k := by omega
  have hC0 : PrC C (.slice oa xs.length oc) w.drew := ⟨by show w.cell? _ = _; rw [Lib.cell_of_heap h]; rfl⟩
  have c3 : w.cell? ⟨C, 3, none⟩ = some (.slice oa xs.length oc) := by rw [Lib.cell_of_heap h]; rfl
  have HC := hide' hC0
  have HD := hide' hd
  have HS := hide' hsr
  have HH := hide' h
  clear hC0 hd hsr h hx hpc hk e1
  go_enter Tryz.func79, Tryz.ntmps79
  go_upto_region 1 with fail
  refine wp_region_classX [14] (C := PrC C (.slice oa xs.length oc)) (by kernel_rfl) ?_
  (refine wpAnyX_take (i := 0) (v := ?_) HC.out rfl (by kernel_rfl) (by kernel_rfl) (by kernel_rfl) (by kernel_rfl) (fun _ _ _ h => h) (Or.inl ⟨by kernel_rfl, ?_⟩) ?_; rotate_left; (intro w hc; have k0 := hc.c3; clear hc; go_simp; try with_reducible rfl))
  (refine wpAnyX_take (i := 1) (v := ?_) HC.out rfl (by kernel_rfl) (by kernel_rfl) (by kernel_rfl) (by kernel_rfl) (fun _ _ _ h => h) (Or.inl ⟨by kernel_rfl, ?_⟩) ?_; rotate_left; (intro w hc; have k0 := hc.c3; clear hc; go_simp; try with_reducible rfl))
  (refine wpAnyX_take (i := 2) (v := ?_) HC.out rfl (by kernel_rfl) (by kernel_rfl) (by kernel_rfl) (by kernel_rfl) (fun _ _ _ h => h) (Or.inl ⟨by kernel_rfl, ?_⟩) ?_; rotate_left; (intro w hc; have k0 := hc.c3; clear hc; go_simp; try with_reducible rfl))
  (refine wpAnyX_take (i := 3) (v := ?_) HC.out rfl (by kernel_rfl) (by kernel_rfl) (by kernel_rfl) (by kernel_rfl) (fun _ _ _ h => h) (Or.inl ⟨by kernel_rfl, ?_⟩) ?_; rotate_left; (intro w hc; have k0 := hc.c3; clear hc; go_simp; try with_reducible rfl))
  (refine wpAnyX_take (i := 4) (v := ?_) HC.out rfl (by kernel_rfl) (by kernel_rfl) (by kernel_rfl) (by kernel_rfl) (fun _ _ _ h => h) (Or.inl ⟨by kernel_rfl, ?_⟩) ?_; rotate_left; (intro w hc; have k0 := hc.c3; clear hc; go_simp; try with_reducible rfl))
  go_simp
  (refine wpAnyX_take (i := 5) (v := ?_) HC.out rfl (by kernel_rfl) (by kernel_rfl) (by kernel_rfl) (by kernel_rfl) (fun _ _ _ h => h) (Or.inl ⟨by kernel_rfl, ?_⟩) ?_; rotate_left; (intro w hc; have k0 := hc.c3; clear hc; go_simp; try with_reducible rfl))
  (refine wpAnyX_take (i := 6) (v := ?_) HC.out rfl (by kernel_rfl) (by kernel_rfl) (by kernel_rfl) (by kernel_rfl) (fun _ _ _ h => h) (Or.inl ⟨by kernel_rfl, ?_⟩) ?_; rotate_left; (intro w hc; have k0 := hc.c3; clear hc; go_simp; try with_reducible rfl))
  (refine wpAnyX_take (i := 7) (v := ?_) HC.out rfl (by kernel_rfl) (by kernel_rfl) (by kernel_rfl) (by kernel_rfl) (fun _ _ _ h => h) (Or.inl ⟨by kernel_rfl, ?_⟩) ?_; rotate_left; (intro w hc; have k0 := hc.c3; clear hc; go_simp; try with_reducible rfl))
  (refine wpAnyX_take (i := 8) (v := ?_) HC.out rfl (by kernel_rfl) (by kernel_rfl) (by kernel_rfl) (by kernel_rfl) (fun _ _ _ h => h) (Or.inl ⟨by kernel_rfl, ?_⟩) ?_; rotate_left; (intro w hc; have k0 := hc.c3; clear hc; go_simp; try with_reducible rfl))
  (refine wpAnyX_take (i := 9) (v := ?_) HC.out rfl (by kernel_rfl) (by kernel_rfl) (by kernel_rfl) (by kernel_rfl) (fun _ _ _ h => h) (Or.inl ⟨by kernel_rfl, ?_⟩) ?_; rotate_left; (intro w hc; have k0 := hc.c3; clear hc; go_simp; try with_reducible rfl))
  go_simp
  (refine wpAnyX_take (i := 10) (v := ?_) HC.out rfl (by kernel_rfl) (by kernel_rfl) (by kernel_rfl) (by kernel_rfl) (fun _ _ _ h => h) (Or.inl ⟨by kernel_rfl, ?_⟩) ?_; rotate_left; (intro w hc; have k0 := hc.c3; clear hc; go_simp; try with_reducible rfl))
  go_simp
  have hdd : Below w.heap.size w w.drew := below_drewn (B := w.heap.size) (w := w) 1
  refine wpAnyX_one (i := 11) (by kernel_rfl) (wpOp_wanted rfl (by rfl) ?_)
  refine wp_append33 (v := .slice oa xs.length oc) (x := .slice sa k sc) _ _ _ rfl rfl rfl (HD.out.kept fun g hg => rfl) (HS.out.below hdd) (by rw [List.length_take]; omega) ?_
  intro v' w' hD hg hown
  have hCl : C < w.heap.size := lt_of_block HH.out
  have hC1 : w'.heap[C]? = some (.cells #[fv, y, iv, .slice oa xs.length oc] 73 (0, 0)) := (hg.block C hCl (fun e => hn e.symm)).trans HH.out
  have x3 : w'.cell? ⟨C, 3, none⟩ = some (.slice oa xs.length oc) := by rw [Lib.cell_of_heap hC1]; rfl
  have f3 := Lib.frozen_of_heap hC1 3
  obtain ⟨va, vc, hv'⟩ := hD.len
  generalize hnn : (xs ++ ys.take (65536 - xs.length)).length = nn at hv'
  subst hv'
  have HE := hide' (And.intro hD (And.intro hg hown))
  clear hD hg hown
  refine ⟨fun _ => ⟨x3⟩, ?_⟩
  refine wpAnyX_one (i := 12) (by kernel_rfl) (wpOp_wanted rfl (by rfl) ?_)
  go_simp
  refine ⟨⟨x3⟩, ?_⟩
  refine wpAnyX_one (i := 13) (by kernel_rfl) (wpOp_wanted rfl (by rfl) ?_)
  go_simp
  refine ⟨⟨x3⟩, ?_⟩
  refine wpAnyX_one (i := 14) (by kernel_rfl) (wpOp_wanted rfl (by rfl) ?_)
  go_simp
  refine wpAnyX_done (by kernel_rfl) ?_ _
  obtain ⟨W6, hW6⟩ : ∃ W6, W6 = w'.setCell ⟨C, 3, none⟩ (.slice va nn vc) := ⟨_, rfl⟩
  rw [← hW6]
  have hC6 : W6.heap[C]? = some (.cells #[fv, y, iv, .slice va nn vc] 73 (0, 0)) := by rw [hW6]; exact set_row hC1 3 _
  have hk6 : ∀ j, j ≠ C → W6.heap[j]? = w'.heap[j]? := fun j hj => by
    rw [hW6]; exact Below.heap_setCell _ ⟨C, 3, none⟩ _ j (by simpa using hj)
  obtain ⟨hD, hg, hown⟩ := HE.out
  have hs6 : W6.heap.size = w'.heap.size := by rw [hW6]; simp
  have hos : W6.os = w'.os ∧ W6.tape = w'.tape ∧ W6.output = w'.output := by rw [hW6]; exact ⟨rfl, rfl, rfl⟩
  have hD6 : Dat W6 (.slice va nn vc) (xs ++ ys.take (65536 - xs.length)) := hD.kept fun g hgo => hk6 g fun e => by
    rcases hown with h | h
    · rw [h, e] at hgo; exact hn hgo
    · rw [h] at hgo
      have := Option.some.inj hgo
      have hz : w.drew.heap.size = w.heap.size := rfl
      omega
  have hT6 : Turn (fun i => i = C ∨ (Value.slice oa xs.length oc).ownBlock = some i) w W6 := ⟨hos.1.trans hg.os, hos.2.1.trans hg.tape, hos.2.2.trans hg.output, by rw [hs6]; exact hg.size, fun i hi hS => (hk6 i fun e => hS (.inl e)).trans (hg.block i hi fun e => hS (.inr e.symm))⟩
  clear hW6 hk6 hs6 hos HE hD hg x3 f3 hC1
  go_wp2
  go_end0
  exact ⟨_, rfl, hC6, hD6, hown, hT6⟩
end Go.Proofs.YtbfchadcpokjoaaGreatDoor
namespace Go.Proofs.YtbfchadcpokjoaaGreatDoor
open Go.RowKit Go.Maps

theorem info169 : (Tryz.prog.info? 169).map (fun i : TypeInfo => (i.zero, i.size, i.bytes)) = some (some (.agg #[.slice none 0 0, .int .u8 0]), 2, 32) := by kernel_rfl
/-- a row of pieces: bytes and a sign -/
def Pcs (b : Nat) (w : World) (v : Value) (ps : List (Bs × Nat)) : Prop := ∃ g c, v = .slice (some ⟨g, 0, none⟩) ps.length c ∧ b ≤ g ∧ g < w.heap.size ∧ ∀ (i : Nat) p, ps[i]? = some p → ∃ pv, w.cell? ⟨g, i * 2, none⟩ = some pv ∧ w.cell? ⟨g, i * 2 + 1, none⟩ = some (.int .u8 p.2) ∧ Dat w pv p.1 ∧ ∀ h, pv.ownBlock = some h → b ≤ h
def fmtP : List (Bs × Nat) := [([], 115), ([45], 100), ([10], 0)]
theorem new_lies (W : World) (xs : List Value) (t : TypeId) : ∀ (j : Nat) u, xs[j]? = some u → (W.alloc (.cells xs.toArray t)).cell? ((⟨W.heap.size, 0, none⟩ : Addr).add j) = some u := fun j u hj => by
  rw [Addr.add_lit, Nat.zero_add, Lib.cell_of_heap (heap_alloc_new W _)]; simpa using hj
theorem new_rds (W : World) (c : UInt8) (n : Int) (hn : n = c.toNat) : Rds (W.alloc (.cells #[.int .u8 n] 5)) (.slice (some ⟨W.heap.size, 0, none⟩) 1 1) [c] := by
  subst hn
  exact .inr ⟨⟨W.heap.size, 0, none⟩, 1, rfl, fun _ => by simp, fun j u hj => new_lies W [.int .u8 c.toNat] 5 j u hj⟩
theorem grown_below {b : Nat} {w W W' : World} {r : Option Nat} (h : Below b w W) (hg : W.grownBy W' r) (hr : ∀ k, r = some k → b ≤ k) (hbW : b ≤ W.heap.size) : Below b w W' :=
  ⟨hg.os.trans h.os, hg.tape.trans h.tape, hg.output.trans h.output, Nat.le_trans h.size hg.size, fun k hk => (hg.block k (Nat.lt_of_lt_of_le hk hbW) fun e => by have := hr k e.symm; omega).trans (h.block k hk)⟩
theorem own_ge {b : Nat} {W : World} {e : TypeId} {n z : Nat} {v : Value} {xs : List Value} (h : W.ownsRow b e z v n xs) : ∀ k, v.ownBlock = some k → b ≤ k := by
  intro k hk
  rcases h.2 with ⟨rfl, _⟩ | ⟨g, cap, cur, rfl, hb, _⟩
  · cases hk
  · cases hk; exact hb
theorem own_lt {b : Nat} {W : World} {e : TypeId} {n z : Nat} {v : Value} {xs : List Value} (h : W.ownsRow b e z v n xs) : ∀ k, v.ownBlock = some k → k < W.heap.size := by
  intro k hk
  rcases h.2 with ⟨rfl, _⟩ | ⟨g, cap, cur, rfl, hb, hg, _⟩
  · cases hk
  · cases hk; exact lt_of_block hg
theorem Dat.some {W : World} {v : Value} {c : UInt8} {r : Bs} (h : Dat W v (c :: r)) : ∃ g cap, v = .slice (some ⟨g, 0, none⟩) (r.length + 1) cap := by
  rcases h with ⟨_, h⟩ | ⟨g, cap, cur, rfl, _⟩
  · cases h
  · exact ⟨_, _, rfl⟩
/-- pieces out of a row of their own -/
theorem pcs_of {b : Nat} {W : World} {g c : Nat} {p1 p2 : Value} (h : W.ownsRow b 169 2 (.slice (some ⟨g, 0, none⟩) 3 c) 3 [.slice none 0 0, .int .u8 115, p1, .int .u8 100, p2, .int .u8 0]) (h1 : Dat W p1 [45]) (h2 : Dat W p2 [10]) (o1 : ∀ k, p1.ownBlock = some k → b ≤ k) (o2 : ∀ k, p2.ownBlock = some k → b ≤ k) : Pcs b W (.slice (some ⟨g, 0, none⟩) 3 c) fmtP := by
  have hb := own_ge h g rfl
  have hl := own_lt h g rfl
  have hc : ∀ (j : Nat) u, ([.slice none 0 0, .int .u8 115, p1, .int .u8 100, p2, .int .u8 0] : List Value)[j]? = some u → W.cell? ⟨g, j, none⟩ = some u := fun j u hj => by
    rcases h.2 with ⟨e, _⟩ | ⟨g', cap, cur, e, _, hg, _, _, _, ht⟩
    · cases e
    · cases e
      rw [Lib.cell_of_heap hg]
      rw [← ht] at hj
      have hlt : j < 3 * 2 := by
        have := (List.getElem?_eq_some_iff.1 hj).1
        rw [List.length_take] at this; omega
      rw [List.getElem?_take_of_lt hlt] at hj
      simpa using hj
  refine ⟨g, c, rfl, hb, hl, fun i p hi => ?_⟩
  rcases i with _ | _ | _ | i
  · cases hi; exact ⟨_, hc 0 _ rfl, hc 1 _ rfl, Dat.nil _, fun _ e => by cases e⟩
  · cases hi; exact ⟨_, hc 2 _ rfl, hc 3 _ rfl, h1, o1⟩
  · cases hi; exact ⟨_, hc 4 _ rfl, hc 5 _ rfl, h2, o2⟩
  · simp [fmtP] at hi
set_option maxRecDepth 100000 in
set_option maxHeartbeats 4000000 in
theorem pieces_fmt (w : World) : Calls Tryz.prog 80 #[.string (mk [37, 115, 45, 37, 100, 92, 110])] w fun r w' => ∃ v, r = .returned v ∧ Pcs w.heap.size w' v fmtP ∧ Below w.heap.size w w' := by
  obtain ⟨inf, hi, hz0, hz1, hz2⟩ := info_parts info169
  show Calls Tryz.prog 80 #[.string ⟨#[37, 115, 45, 37, 100, 92, 110]⟩] w _
  have m0 : min (2 : Int) 7 = 2 := rfl
  have m2 : min (4 : Int) 7 = 4 := rfl
  have m3 : min (5 : Int) 7 = 5 := rfl
  have m5 : min (7 : Int) 7 = 7 := rfl
  have e0 : (⟨#[37, 115, 45, 37, 100, 92, 110]⟩ : ByteArray).extract 0 2 = mk [37, 115] := by decide +kernel
  have e2 : (⟨#[37, 115, 45, 37, 100, 92, 110]⟩ : ByteArray).extract 2 4 = mk [45, 37] := by decide +kernel
  have e3 : (⟨#[37, 115, 45, 37, 100, 92, 110]⟩ : ByteArray).extract 3 5 = mk [37, 100] := by decide +kernel
  have e5 : (⟨#[37, 115, 45, 37, 100, 92, 110]⟩ : ByteArray).extract 5 7 = mk [92, 110] := by decide +kernel
  have i0 : ∀ W : World, (Instr.index 9 (.string (mk [37, 115])) (.int .i64 1)).run Tryz.prog W = .ok (.int .u8 115) W := fun W => by kernel_rfl
  have i2 : ∀ W : World, (Instr.index 9 (.string (mk [45, 37])) (.int .i64 0)).run Tryz.prog W = .ok (.int .u8 45) W := fun W => by kernel_rfl
  have i3 : ∀ W : World, (Instr.index 9 (.string (mk [37, 100])) (.int .i64 1)).run Tryz.prog W = .ok (.int .u8 100) W := fun W => by kernel_rfl
  generalize hF : (⟨#[37, 115, 45, 37, 100, 92, 110]⟩ : ByteArray) = F at e0 e2 e3 e5 ⊢
  have hFs : F.size = 7 := by rw [← hF]; rfl
  clear hF
  go_enter Tryz.func80, Tryz.ntmps80
  go_wp2_with fail
  refine wp_loop_rounds 6 ?_
  rw [rounds_succ]
  go_upto_region 19 with (at_builtin; refine wpList_plain rfl fun _ hK => ?_; refine wp_append_lies _ _ _ 126 rfl w.heap.size 169 inf _ 2 32 Tryz.underlying126 hi hz0 hz1 hz2 rfl (by decide) (.slice none 0 0) 0 [] rfl (World.ownsRow_nil _ _ _ _) ⟨w.heap.size, 0, none⟩ 1 1 [.slice none 0 0, .int .u8 115] rfl rfl (new_lies w _ 169) (by simp [Value.oneCell']) (by decide) (by unfold maxLen; omega) (by omega) (by simp) _ rfl ?_; intro g1 cap1 w1 ho1 hg1 hat1 hl1; refine hK _ _ ?_)
  have hB1 : Below w.heap.size w w1 := grown_below ((Below.refl _ _).alloc (Nat.le_refl _) _) hg1 (fun k e => by cases e) (by simp)
  have HB1 := hide' hB1
  have hs1 := hB1.size
  clear hg1 hat1 hK hB1
  go_wp2_with fail
  rw [rounds_succ]
  go_upto_region 8 with (at_builtin; refine wpList_append_dat (v := .slice none 0 0) _ rfl _ _ rfl rfl rfl (Dat.nil _) (new_rds w1 45 45 rfl) (by simp) ?_; intro v2 w2 hD2 _ hg2 hw2)
  obtain ⟨h2, cap2, rfl⟩ := Dat.some hD2
  have hh2 : w1.heap.size < h2 := by
    rcases hw2 with h | h
    · cases h
    · have h' : h2 = w1.heap.size + 1 := by simpa using Option.some.inj h
      omega
  have hB2 : Below w.heap.size w w2 := grown_below (HB1.out.alloc hs1 _) hg2 (fun k e => by cases e) (by simp; omega)
  have hr2 : w2.ownsRow w.heap.size 169 2 (.slice (some ⟨g1, 0, none⟩) 1 cap1) 1 [.slice none 0 0, .int .u8 115] := (World.ownsRow.alloc ho1 _).kept hg2 (.inr (by simp [Value.ownBlock]))
  have HB2 := hide' hB2
  have hs2 : w1.heap.size + 1 ≤ w2.heap.size := by have := hg2.size; simpa using this
  clear hg2 hw2 hB2 ho1
  go_wp2_with fail
  rw [rounds_succ]
  go_upto_region 19 with (at_builtin; refine wpList_plain rfl fun _ hK => ?_; refine wp_append_lies _ _ _ 126 rfl w.heap.size 169 inf _ 2 32 Tryz.underlying126 hi hz0 hz1 hz2 rfl (by decide) (.slice (some ⟨g1, 0, none⟩) 1 cap1) 1 _ rfl (World.ownsRow.alloc hr2 _) ⟨w2.heap.size, 0, none⟩ 1 1 [.slice (some ⟨h2, 0, none⟩) 1 cap2, .int .u8 100] rfl rfl (new_lies w2 _ 169) (by simp [Value.oneCell']) (by decide) (by unfold maxLen; omega) (by omega) (by simp; omega) _ rfl ?_; intro g3 cap3 w3 ho3 hg3 hat3 hl3; refine hK _ _ ?_)
  have hB3 : Below w.heap.size w w3 := grown_below (HB2.out.alloc (by omega) _) hg3 (fun k e => own_ge hr2 k e) (by simp; omega)
  have hg1h : g1 ≠ h2 := by omega
  have hD3 : Dat w3 (.slice (some ⟨h2, 0, none⟩) 1 cap2) [45] := hD2.kept fun k hk => by
    cases hk
    have hlt := hD2.lt h2 rfl
    exact (hg3.block h2 (by simp; omega) (by simp [Value.ownBlock]; omega)).trans (Below.heap_alloc _ _ _ hlt)
  have hg3h : g3 ≠ h2 := by
    have hlt := hD2.lt h2 rfl
    rcases hat3 with h | h
    · have := Option.some.inj h; simp at this; omega
    · simp at h; omega
  have HB3 := hide' hB3
  have HD3 := hide' hD3
  have hs3 : w2.heap.size + 1 ≤ w3.heap.size := by have := hg3.size; simpa using this
  clear hg3 hat3 hB3 hD3 hD2 hr2 hK
  go_wp2_with fail
  rw [rounds_succ]
  go_upto_region 20 with (at_builtin; refine wpList_append_dat (v := .slice none 0 0) _ rfl _ _ rfl rfl rfl (Dat.nil _) (new_rds w3 10 10 rfl) (by simp) ?_; intro v4 w4 hD4 _ hg4 hw4)
  obtain ⟨h4, cap4, rfl⟩ := Dat.some hD4
  have hh4 : w3.heap.size < h4 := by
    rcases hw4 with h | h
    · cases h
    · have h' : h4 = w3.heap.size + 1 := by simpa using Option.some.inj h
      omega
  have hB4 : Below w.heap.size w w4 := grown_below (HB3.out.alloc (by omega) _) hg4 (fun k e => by cases e) (by simp; omega)
  have hr4 : w4.ownsRow w.heap.size 169 2 (.slice (some ⟨g3, 0, none⟩) 2 cap3) 2 [.slice none 0 0, .int .u8 115, .slice (some ⟨h2, 0, none⟩) 1 cap2, .int .u8 100] := (World.ownsRow.alloc ho3 _).kept hg4 (.inr (by simp [Value.ownBlock]))
  have hE4 : Dat w4 (.slice (some ⟨h2, 0, none⟩) 1 cap2) [45] := HD3.out.kept fun k hk => by
    cases hk
    have hlt := HD3.out.lt h2 rfl
    exact (hg4.block h2 (by simp; omega) (by simp [Value.ownBlock])).trans (Below.heap_alloc _ _ _ hlt)
  have HB4 := hide' hB4
  have HE4 := hide' hE4
  have HD4 := hide' hD4
  have hs4 : w3.heap.size + 1 ≤ w4.heap.size := by have := hg4.size; simpa using this
  clear hg4 hw4 hB4 ho3 hE4 hD4 HB3 HD3
  go_wp2_with fail
  rw [rounds_succ]
  go_wp2_with (at_builtin; refine wpList_plain rfl fun _ hK => ?_; refine wp_append_lies _ _ _ 126 rfl w.heap.size 169 inf _ 2 32 Tryz.underlying126 hi hz0 hz1 hz2 rfl (by decide) (.slice (some ⟨g3, 0, none⟩) 2 cap3) 2 _ rfl (World.ownsRow.alloc hr4 _) ⟨w4.heap.size, 0, none⟩ 1 1 [.slice (some ⟨h4, 0, none⟩) 1 cap4, .int .u8 0] rfl rfl (new_lies w4 _ 169) (by simp [Value.oneCell']) (by decide) (by unfold maxLen; omega) (by omega) (by simp; omega) _ rfl ?_; intro g5 cap5 w5 ho5 hg5 hat5 hl5; refine hK _ _ ?_)
  have hB5 : Below w.heap.size w w5 := grown_below (HB4.out.alloc (by omega) _) hg5 (fun k e => own_ge hr4 k e) (by simp; omega)
  have hD5 : Dat w5 (.slice (some ⟨h4, 0, none⟩) 1 cap4) [10] := HD4.out.kept fun k hk => by
    cases hk
    have hlt := HD4.out.lt h4 rfl
    exact (hg5.block h4 (by simp; omega) (by simp [Value.ownBlock]; omega)).trans (Below.heap_alloc _ _ _ hlt)
  have hE5 : Dat w5 (.slice (some ⟨h2, 0, none⟩) 1 cap2) [45] := HE4.out.kept fun k hk => by
    cases hk
    have hlt := HE4.out.lt h2 rfl
    exact (hg5.block h2 (by simp; omega) (by simp [Value.ownBlock]; omega)).trans (Below.heap_alloc _ _ _ hlt)
  clear hK
  go_ret
  exact ⟨_, rfl, pcs_of ho5 hE5 hD5 (fun k e => by cases e; show w.heap.size ≤ h2; omega) (fun k e => by cases e; show w.heap.size ≤ h4; omega), hB5⟩
end Go.Proofs.YtbfchadcpokjoaaGreatDoor
namespace Go.Proofs.YtbfchadcpokjoaaGreatDoor
open Go.RowKit

theorem dpiece : ∀ k : Fin 10, (⟨#[48, 49, 50, 51, 52, 53, 54, 55, 56, 57, 97, 98, 99, 100, 101, 102, 103, 104, 105, 106, 107, 108, 109, 110, 111, 112, 113, 114, 115, 116, 117, 118, 119, 120, 121, 122]⟩ : ByteArray).extract k.val (k.val + 1) = ⟨#[UInt8.ofNat (48 + k.val)]⟩ := by decide +kernel
set_option maxRecDepth 100000 in
theorem small_one (n : Nat) (h : n < 10) (w : World) : Calls Tryz.prog 216 #[.int .i64 n] w fun r w' => r = .returned (.string (mk [UInt8.ofNat (48 + n)])) ∧ w' = w := by
  have k1 : (n : Int) < 10 := by omega
  have hp := dpiece ⟨n, h⟩
  go_enter Tryz.func216, Tryz.ntmps216
  go_wp2
  go_ret
  exact ⟨rfl, rfl⟩
set_option maxRecDepth 100000 in
theorem decimal_one (n : Nat) (h : n < 10) (w : World) : Calls Tryz.prog 116 #[.int .i64 n] w fun r w' => r = .returned (.string (mk [UInt8.ofNat (48 + n)])) ∧ w' = w := by
  have q1 := small_one n h
  generalize mk [UInt8.ofNat (48 + n)] = s at q1 ⊢
  have q2 : ∀ w, Calls Tryz.prog 193 #[.int .i64 n, .int .i64 10] w fun r w' => r = .returned (.string s) ∧ w' = w := fun w => by
    have k1 : (0 : Int) ≤ n := by omega
    have k2 : (n : Int) < 100 := by omega
    go_enter Tryz.func193, Tryz.ntmps193
    go_wp2_with (go_at_call 216; refine (q1 _).mono ?_; rintro r w' ⟨rfl, rfl⟩)
    go_ret
    exact ⟨rfl, rfl⟩
  have q3 : ∀ w, Calls Tryz.prog 177 #[.int .i64 n] w fun r w' => r = .returned (.string s) ∧ w' = w := fun w => by
    go_enter Tryz.func177, Tryz.ntmps177
    go_wp2_with (go_at_call 193; refine (q2 _).mono ?_; rintro r w' ⟨rfl, rfl⟩)
    go_ret
    exact ⟨rfl, rfl⟩
  have q4 : ∀ w, Calls Tryz.prog 150 #[.int .i64 n] w fun r w' => r = .returned (.string s) ∧ w' = w := fun w => by
    go_enter Tryz.func150, Tryz.ntmps150
    go_wp2_with (go_at_call 177; refine (q3 _).mono ?_; rintro r w' ⟨rfl, rfl⟩)
    go_ret
    exact ⟨rfl, rfl⟩
  go_enter Tryz.func116, Tryz.ntmps116
  go_wp2_with (go_at_call 150; refine (q4 _).mono ?_; rintro r w' ⟨rfl, rfl⟩)
  go_ret
  exact ⟨rfl, rfl⟩
end Go.Proofs.YtbfchadcpokjoaaGreatDoor
namespace Go.Proofs.YtbfchadcpokjoaaGreatDoor
open Go.RowKit Go.Maps

/-- what is printed behind what was -/
def prP (o b : Bs) : Bs := o ++ b.take (65536 - o.length)
theorem prP_len {o b : Bs} (h : o.length ≤ 65536) : (prP o b).length ≤ 65536 := by unfold prP; rw [List.length_append, List.length_take]; omega
/-- a format printed once, with words enough, its numbers being of one digit -/
def rndP : List (Bs × Nat) → List Bs → Bool → Bs → Option (List Bs × Bool × Bs)
  | [], ws, nb, o => some (ws, nb, o)
  | (p, sg) :: r, ws, nb, o =>
    if sg = 0 then rndP r ws nb (prP o p)
    else match ws with
      | [] => none
      | x :: ws' => if sg = 115 then rndP r ws' nb (prP (prP o p) x)
        else if sg = 100 then if 0 ≤ sgN x ∧ sgN x < 10 then rndP r ws' (nb && sgB x) (prP (prP o p) [UInt8.ofNat (48 + (sgN x).toNat)]) else none
        else none
structure RdI (w0 : World) (C : Nat) (fv y iv : Value) (ov : Value) (o : Bs) (W : World) : Prop where
  call : CallAt W C fv y iv ov
  dat : Dat W ov o
  len : o.length ≤ 65536
  own : ∀ g, ov.ownBlock = some g → w0.heap.size ≤ g
  turn : Turn (· = C) w0 W
theorem RdI.alloc {w0 W : World} {C : Nat} {fv y iv ov : Value} {o : Bs} (h : RdI w0 C fv y iv ov o W) (ob : Obj) : RdI w0 C fv y iv ov o (W.alloc ob) :=
  ⟨(Below.heap_alloc _ _ _ (lt_of_block h.call)).trans h.call, h.dat.kept fun g hg => Below.heap_alloc _ _ _ (h.dat.lt g hg), h.len, h.own, h.turn.alloc ob⟩
theorem RdI.below {w0 W W' : World} {C : Nat} {fv y iv ov : Value} {o : Bs} (h : RdI w0 C fv y iv ov o W) (hb : Below W.heap.size W W') : RdI w0 C fv y iv ov o W' :=
  ⟨(hb.block _ (lt_of_block h.call)).trans h.call, h.dat.kept fun g hg => hb.block _ (h.dat.lt g hg), h.len, h.own, h.turn.trans (Turn.of_below (S := fun i => i = C) hb) fun _ hi => .inl hi⟩
theorem rprint {w0 W : World} {C : Nat} {fv y iv ov : Value} {o : Bs} (h : RdI w0 C fv y iv ov o W) (hC : C < w0.heap.size) (pv : Value) (b : Bs) (hx : Rds W pv b) (hpc : ∀ a n c, pv = .slice a n c → n ≤ c) (hl : b.length ≤ 1099511) :
    Calls Tryz.prog 79 #[.pointer (some ⟨C, 0, none⟩), pv] W fun r w' => ∃ ov', r = .returned (.tuple #[]) ∧ RdI w0 C fv y iv ov' (prP o b) w' ∧ ∀ j, j < W.heap.size → j ≠ C → ov.ownBlock ≠ some j → w'.heap[j]? = W.heap[j]? := by
  refine (print_any C fv y iv ov pv o b W h.call h.dat hx hpc h.len hl (fun e => by have := h.own _ e; omega)).mono ?_
  rintro r w' ⟨ov', rfl, h1, h2, h3, h4⟩
  refine ⟨ov', rfl, ⟨h1, h2, prP_len h.len, fun g hg => ?_, h.turn.trans h4 fun i hi => ?_⟩, fun j hj hjC hjo => h4.block j hj fun e => e.elim hjC hjo⟩
  · rcases h3 with h3 | h3
    · exact h.own g (h3 ▸ hg)
    · rw [h3] at hg; have := Option.some.inj hg; have := h.turn.size; omega
  · rcases hi with hi | hi
    · exact .inl hi
    · exact .inr (h.own i hi)
theorem Pcs.cells {b : Nat} {w0 W : World} {pv : Value} {ps : List (Bs × Nat)} {C : Nat} (h : Pcs b w0 pv ps) (hC : C < b) (ht : Turn (· = C) w0 W) {n : Nat} {p : Bs × Nat} (hn : ps[n]? = some p) :
    ∃ g c qv, pv = .slice (some ⟨g, 0, none⟩) ps.length c ∧ W.cell? ⟨g, n * 2, none⟩ = some qv ∧ W.cell? ⟨g, n * 2 + 1, none⟩ = some (.int .u8 p.2) ∧ Dat W qv p.1 := by
  obtain ⟨g, c, rfl, hg0, hg1, hc⟩ := h
  obtain ⟨qv, h1, h2, h3, h4⟩ := hc n p hn
  have hk := ht.block g hg1 (by omega)
  exact ⟨g, c, qv, rfl, (World.cell?_of_block (a := ⟨g, n * 2, none⟩) hk).trans h1, (World.cell?_of_block (a := ⟨g, n * 2 + 1, none⟩) hk).trans h2, h3.kept fun j hj => ht.block j (h3.lt j hj) (by have := h4 j hj; omega)⟩
set_option maxRecDepth 100000 in
set_option maxHeartbeats 4000000 in
theorem round_any (V w0 : World) (b C : Nat) (fv y iv pv lv : Value) (ps : List (Bs × Nat)) (ws : List Bs) (w : World) (ov : Value) (o : Bs) (hb : V.heap.size ≤ C) (hV : Below V.heap.size V w0) (hCb : C < b) (hp : Pcs b w0 pv ps) (hpl : ps.length ≤ 1000) (hpp : ∀ p ∈ ps, p.1.length ≤ 1000000) (hwl : ∀ x ∈ ws, x.length ≤ 1000000) (ht : Txs V lv ws) (hI : RdI w0 C fv y iv ov o w)
    (ws' : List Bs) (nb' : Bool) (o' : Bs) (hr : rndP ps ws true o = some (ws', nb', o')) :
    Calls Tryz.prog 81 #[.pointer (some ⟨C, 0, none⟩), pv, lv] w fun r w' => ∃ lv' ov', r = .returned (.tuple #[lv', .bool nb']) ∧ Txs V lv' ws' ∧ RdI w0 C fv y iv ov' o' w' := by
  obtain ⟨g, pc, hpv⟩ : ∃ g c, pv = .slice (some ⟨g, 0, none⟩) ps.length c := by obtain ⟨g, c, h, _⟩ := hp; exact ⟨g, c, h⟩
  subst hpv
  have HP := hide' hp
  have HV := hide' hV
  have HR := hide' hr
  have HI := hide' hI
  have HT := hide' ht
  clear hp hV hr hI ht
  go_enter Tryz.func81, Tryz.ntmps81
  go_wp2
  go_loopw [6, 7, 17] (fun l nb i wr => ∃ (n : Nat) (us : List Bs) (k : Bool) (ov1 : Value) (o1 : Bs), n ≤ ps.length ∧ i = .int .i64 n ∧ nb = .bool k ∧ Txs V l us ∧ (∀ x ∈ us, x.length ≤ 1000000) ∧ RdI w0 C fv y iv ov1 o1 wr ∧ rndP (ps.drop n) us k o1 = some (ws', nb', o')) (fun _ _ i _ => ps.length - (match i with | .int _ n => n.toNat | _ => 0))
  case atStart => exact ⟨0, ws, true, ov, o, Nat.zero_le _, rfl, rfl, HT.out, hwl, HI.out, HR.out⟩
  case round =>
    obtain ⟨n, us, k, ov1, o1, hn, rfl, rfl, hT1, hw1, hI1, hr1⟩ := hrel
    by_cases hnl : n < ps.length
    · have k1 : (n : Int) < ps.length := by omega
      obtain ⟨p, hpn⟩ : ∃ p, ps[n]? = some p := ⟨_, List.getElem?_eq_getElem hnl⟩
      obtain ⟨g', c', qv, e, hc0, hc1, hq⟩ := Pcs.cells HP.out hCb hI1.turn hpn
      cases e
      obtain ⟨pb, sg⟩ := p
      obtain ⟨qa, qc, hqv⟩ := hq.len
      subst hqv
      have hpl1 : pb.length ≤ 1000000 := hpp _ (List.mem_of_getElem? hpn)
      rw [List.drop_eq_getElem_cons hnl, (List.getElem?_eq_some_iff.1 hpn).2] at hr1
      have HR1 := hide' hr1
      have HI1 := hide' hI1
      have HQ := hide' hq
      have HT1 := hide' hT1
      clear hr1 hI1 hq hT1
      dsimp only at hc0 hc1 HQ
      have hCw : C < w0.heap.size := by obtain ⟨g2, c2, e2, hg1, hg2, _⟩ := HP.out; omega
      have hCr : C < wr.heap.size := lt_of_block HI1.out.call
      obtain ⟨wx, hwx⟩ : ∃ wx, wx = wr.alloc (.cells #[.slice qa pb.length qc, .int .u8 sg] 169) := ⟨_, rfl⟩
      have hbx : wx.heap[wr.heap.size]? = some (.cells #[.slice qa pb.length qc, .int .u8 sg] 169 (0, 0)) := by rw [hwx]; exact heap_alloc_new wr _
      have hsx : wx.heap.size = wr.heap.size + 1 := by rw [hwx]; simp
      have hIx : RdI w0 C fv y iv ov1 o1 wx := by rw [hwx]; exact HI1.out.alloc _
      have hqx : Dat wx (.slice qa pb.length qc) pb := by rw [hwx]; exact HQ.out.kept fun j hj => Below.heap_alloc _ _ _ (HQ.out.lt j hj)
      have x0 : wx.cell? ⟨wr.heap.size, 0, none⟩ = some (.slice qa pb.length qc) := by rw [Lib.cell_of_heap hbx]; rfl
      have q1 := rprint hIx hCw _ pb hqx.rds (fun a n c e => by
        cases e
        rcases hqx with ⟨e1, e2⟩ | ⟨g5, cap5, cur5, e1, e2, e3, _⟩
        · rw [e2]; exact Nat.zero_le _
        · cases e1; exact e3) (by omega)
      have hob : ov1.ownBlock ≠ some wr.heap.size := fun e => by have := HI1.out.dat.lt _ e; omega
      have HQ1 := hide' q1
      have HBX := hide' hbx
      have HSX := hide' hsx
      clear q1 hqx hIx hbx hsx
      go_upto_region 5 with fail
      rw [← hwx]
      clear hwx
      go_wp2_with fail
      refine HQ1.out.mono ?_
      rintro r w2 ⟨ov2, rfl, hI2, hk2⟩
      have hb2 : w2.heap[wr.heap.size]? = some (.cells #[.slice qa pb.length qc, .int .u8 sg] 169 (0, 0)) := (hk2 wr.heap.size (by rw [HSX.out]; omega) (by omega) hob).trans HBX.out
      have y1 : w2.cell? ⟨wr.heap.size, 1, none⟩ = some (.int .u8 sg) := by rw [Lib.cell_of_heap hb2]; rfl
      have HI2 := hide' hI2
      clear hI2 hk2 hb2 HQ1 x0 HBX HSX hob
      have hr1 := HR1.out
      unfold rndP at hr1
      by_cases h0 : sg = 0
      · subst h0
        rw [if_pos rfl] at hr1
        go_wp2
        go_roundw
        · exact ⟨n + 1, us, k, ov2, prP o1 pb, hnl, by simp, rfl, HT1.out, hw1, HI2.out, hr1⟩
        · show ps.length - ((n : Int) + 1).toNat < ps.length - (n : Int).toNat
          omega
      · rw [if_neg h0] at hr1
        cases us with
        | nil => cases hr1
        | cons x us =>
          dsimp only at hr1
          have hxl : x.length ≤ 1000000 := hw1 x (by simp)
          have hwl1 : ∀ z ∈ us, z.length ≤ 1000000 := fun z hz => hw1 z (by simp [hz])
          have hTw : Txs w2 u6 (x :: us) := HT1.out.below (HV.out.trans (HI2.out.turn.below HV.out.size fun i hi => by subst hi; exact hb)) (Nat.le_refl _)
          obtain ⟨g6, o6, c6, hu6, hc6, _⟩ := hTw.head
          obtain ⟨ya, yc, hsl, hT2⟩ := HT1.out.tail
          have HT2 := hide' hT2
          subst hu6
          clear hT2 hTw
          have hgt : (0 : Int) < us.length + 1 := by omega
          by_cases h1 : sg = 115
          · subst h1
            rw [if_pos rfl] at hr1
            have y1 : w2.cell? ⟨wr.heap.size, 1, none⟩ = some (.int .u8 115) := y1
            go_upto_region 8 with fail
            go_quiet (fail)
            go_upto_region 15 with fail
            obtain ⟨w3, hw3⟩ : ∃ w3, w3 = w2.drewN nq := ⟨_, rfl⟩
            rw [← hw3]
            have hI3 : RdI w0 C fv y iv ov2 (prP o1 pb) w3 := by rw [hw3]; exact HI2.out.below (below_drewn nq)
            obtain ⟨hcv, hcb⟩ := conv_new w3 x
            obtain ⟨hrd, hcap⟩ := conv_rds w3 x
            generalize Lib.bytesWorld w3 5 (mk x) = w4 at hcv hcb hrd
            generalize grownCap w3 x.length 0 5 = c4 at hcv hrd hcap
            have q := rprint (hI3.below hcb) hCw (.slice (some ⟨w3.heap.size, 0, none⟩) x.length c4) x hrd (fun a n c e => by cases e; exact hcap) (by omega)
            have HQ2 := hide' q
            clear q hI3 hrd hcb hcap hw3 HI2 hc6 y1
            go_wp2_with fail
            refine HQ2.out.mono ?_
            rintro r w5 ⟨ov5, rfl, hI5, _⟩
            clear HQ2
            go_wp2
            go_roundw
            · exact ⟨n + 1, us, k, ov5, prP (prP o1 pb) x, hnl, by simp, rfl, HT2.out, hwl1, hI5, hr1⟩
            · show ps.length - ((n : Int) + 1).toNat < ps.length - (n : Int).toNat
              omega
          · rw [if_neg h1] at hr1
            by_cases h2 : sg = 100
            · subst h2
              rw [if_pos rfl] at hr1
              by_cases h3 : 0 ≤ sgN x ∧ sgN x < 10
              · rw [if_pos h3] at hr1
                have y1 : w2.cell? ⟨wr.heap.size, 1, none⟩ = some (.int .u8 100) := y1
                obtain ⟨d, hd⟩ : ∃ d : Nat, sgN x = d := ⟨(sgN x).toNat, by omega⟩
                have hd10 : d < 10 := by omega
                have hdt : (sgN x).toNat = d := by omega
                rw [hdt] at hr1
                have qn := fun W => snumber_any x W (by unfold maxLen; omega)
                rw [hd] at qn
                generalize sgB x = sb at qn hr1
                have qd := fun W => decimal_one d hd10 W
                generalize hX : [UInt8.ofNat (48 + d)] = X at qd hr1
                have hXl : X.length ≤ 1 := by rw [← hX]; exact Nat.le_refl _
                clear hX hd hdt h3 h1 h0
                have hr2 : ∀ k' : Bool, k' = (k && sb) → rndP (List.drop (n + 1) ps) us k' (prP (prP o1 pb) X) = some (ws', nb', o') := fun k' e => by rw [e]; exact hr1
                have HR2 := hide' hr2
                clear hr2 hr1
                cases k <;> cases sb
                all_goals (
                  go_upto_region 8 with fail
                  go_quiet (fail)
                  go_upto_region 15 with (first | (go_at_call 115; refine (qn _).mono ?_; rintro e w' ⟨rfl, rfl⟩) | (go_at_call 116; refine (qd _).mono ?_; rintro e w' ⟨rfl, rfl⟩))
                  obtain ⟨w3, hw3⟩ : ∃ w3, w3 = w2.drewN nq := ⟨_, rfl⟩
                  rw [← hw3]
                  have hI3 : RdI w0 C fv y iv ov2 (prP o1 pb) w3 := by rw [hw3]; exact HI2.out.below (below_drewn nq)
                  obtain ⟨hcv, hcb⟩ := conv_new w3 X
                  obtain ⟨hrd, hcap⟩ := conv_rds w3 X
                  generalize Lib.bytesWorld w3 5 (mk X) = w4 at hcv hcb hrd
                  generalize grownCap w3 X.length 0 5 = c4 at hcv hrd hcap
                  have q := rprint (hI3.below hcb) hCw (.slice (some ⟨w3.heap.size, 0, none⟩) X.length c4) X hrd (fun a n c e => by cases e; exact hcap) (by omega)
                  have HQ2 := hide' q
                  clear q hI3 hrd hcb hcap hw3 HI2 hc6 y1
                  go_wp2_with fail
                  refine HQ2.out.mono ?_
                  rintro r w5 ⟨ov5, rfl, hI5, _⟩
                  clear HQ2
                  go_wp2
                  go_roundw
                  · exact ⟨n + 1, us, _, ov5, prP (prP o1 pb) X, hnl, by simp, rfl, HT2.out, hwl1, hI5, HR2.out _ rfl⟩
                  · show ps.length - ((n : Int) + 1).toNat < ps.length - (n : Int).toNat
                    omega)
              · rw [if_neg h3] at hr1; cases hr1
            · rw [if_neg h2] at hr1; cases hr1
    · obtain rfl : n = ps.length := by omega
      rw [List.drop_of_length_le (Nat.le_refl _)] at hr1
      unfold rndP at hr1
      cases hr1
      clear HP HV HR HI HT
      go_wp2
      refine bodyPost_ret (v := .tuple #[u6, .bool nb']) (by simp [results, Tryz.results81, go_sem]) rfl ?_
      exact ⟨u6, ov1, rfl, hT1, hI1⟩
end Go.Proofs.YtbfchadcpokjoaaGreatDoor
