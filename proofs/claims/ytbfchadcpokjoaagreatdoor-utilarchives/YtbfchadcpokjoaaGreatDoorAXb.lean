/- tellNames. slices.Delete of the first of some members. tellData of a name that is not there; dropMembers of the first. tellData of one name. -/
import Derived.Test.YtbfchadcpokjoaaGreatDoorAXa
import Derived.Test.YtbfchadcpokjoaaGreatDoorAZx
import Derived.Test.YtbfchadcpokjoaaGreatDoorAZc
import Derived.Lib.SliceRun
import Derived.Deep.AppendSrc
namespace Go.Proofs.YtbfchadcpokjoaaGreatDoor
open Go.RowKit Go.Maps

/-- the cells of a row of members -/
theorem ms_row {w : World} {b0 : Nat} {v : Value} {ms : List Arc.Mv} (h : Arc.MsAt w b0 v ms) (hne : ms ≠ []) : ∃ g cap, v = .slice (some ⟨g, 0, none⟩) ms.length cap ∧ b0 ≤ g ∧ g < w.heap.size ∧ ms.length ≤ cap ∧ ∀ W : World, W.heap[g]? = w.heap[g]? → Arc.MRow W g 0 ms := by
  rcases h.row with ⟨_, e⟩ | ⟨g, cap, cur, e1, e2, e3, e4, e5, e6⟩
  · exact absurd e hne
  · refine ⟨g, cap, e1, e2, lt_of_block e3, e4, fun W hW => ?_⟩
    have hg : W.heap[g]? = some (.cells cur 185 (0, 0)) := hW.trans e3
    refine ⟨lt_of_block hg, fun i n hi => ?_, fun i n hi => ?_, fun i n hi => ?_⟩
    · have := Arc.cell_row hg e6 hi (r := 0) (by decide) rfl; simpa using this
    · have := Arc.cell_row hg e6 hi (r := 1) (by decide) rfl; simpa using this
    · have := Arc.cell_row hg e6 hi (r := 2) (by decide) rfl; simpa using this
def outN (es : List Ee) : Bs := es.flatMap fun e => e.1 ++ [10]
theorem outN_next (es : List Ee) (k : Nat) (e : Ee) (h : es[k]? = some e) : outN (es.take (k + 1)) = outN (es.take k) ++ (e.1 ++ [10]) := by
  unfold outN
  rw [List.take_add_one, h, Option.toList_some, List.flatMap_append]
  simp
theorem outN_len (es : List Ee) (k : Nat) : (outN (es.take k)).length ≤ (outN es).length := by
  unfold outN
  conv => rhs; rw [← List.take_append_drop k es, List.flatMap_append]
  simp
/-- from the world behind the members to the one ahead of them -/
theorem RdI.early {w w1 W : World} {C : Nat} {fv y iv ov : Value} {o : Bs} (h : RdI w1 C fv y iv ov o W) (hb : Below w.heap.size w w1) : RdI w C fv y iv ov o W :=
  ⟨h.call, h.dat, h.len, fun g hg => Nat.le_trans hb.size (h.own g hg), ⟨h.turn.os.trans hb.os, h.turn.tape.trans hb.tape, h.turn.output.trans hb.output, Nat.le_trans hb.size h.turn.size, fun k hk hn => (h.turn.block k (Nat.lt_of_lt_of_le hk hb.size) hn).trans (hb.block k hk)⟩⟩
set_option maxRecDepth 100000 in
set_option maxHeartbeats 1000000 in
theorem tellNames_ok (C : Nat) (p : Bs) (y iv fv lv : Value) (w : World) (es : List Ee) (hC : CallAt w C fv y iv (.slice none 0 0)) (hm : Calls Tryz.prog 127 #[.pointer (some ⟨C, 0, none⟩), .string (mk p)] w (MbV w es)) (hw : Wl es) (ho : (outN es).length ≤ 60000) :
    Calls Tryz.prog 100 #[.pointer (some ⟨C, 0, none⟩), .string (mk p), lv] w fun r w' => r = .returned .nilIface ∧ ∃ ov', RdI w C fv y iv ov' (outN es) w' := by
  have hCl := lt_of_block hC
  have HM := hide' hm
  have HW := hide' hw
  have HC := hide' hC
  clear hm hw hC
  go_enter Tryz.func100, Tryz.ntmps100
  go_wp2_with fail
  refine HM.out.mono ?_
  rintro r w1 ⟨hb1, v1, ms, rfl, hm1, he1⟩
  obtain ⟨la, lc, hlv⟩ := hm1.mems.len
  subst hlv
  have hen : ms.length = es.length := by rw [← he1, List.length_map]
  have hml : ms.length ≤ 1000 := by have := HW.out.n; omega
  have HM1 := hide' hm1
  have HE1 := hide' he1
  have HB1 := hide' hb1
  have HEN := hide' hen
  have hs1 := hb1.size
  clear hm1 he1 hb1 HM hen
  go_wp2_with fail
  go_loopw [10, 19] (fun _ i wr => ∃ (k : Nat) (ov : Value), k ≤ ms.length ∧ i = .int .i64 k ∧ RdI w1 C fv y iv ov (outN (es.take k)) wr) (fun _ i _ => ms.length - (intOf i).toNat)
  case atStart => exact ⟨0, .slice none 0 0, Nat.zero_le _, rfl, ⟨(HB1.out.block C hCl).trans HC.out, .inl ⟨rfl, rfl⟩, by simp [outN], fun g hg => (by cases hg), Turn.refl _ _⟩⟩
  case round =>
    obtain ⟨k, ov, hk, rfl, hI⟩ := hrel
    by_cases hkl : k < ms.length
    · have k1 : (k : Int) < ms.length := by omega
      obtain ⟨m, hmk⟩ : ∃ m, ms[k]? = some m := ⟨_, List.getElem?_eq_getElem hkl⟩
      obtain ⟨g, cap, hse, hg0, hg1, hcap, hrow⟩ := ms_row HM1.out (fun e => by rw [e] at hkl; simp at hkl)
      cases hse
      have hR := hrow wr (hI.turn.block g hg1 (by omega))
      have d0 : wr.cell? ⟨g, 0 + k * 3, none⟩ = some (.string (mk m.name)) := hR.c0 k m hmk
      have d1 := hR.c1 k m hmk
      have d2 := hR.c2 k m hmk
      rw [Nat.zero_add] at d0 d1 d2
      have hek : es[k]? = some (mE m) := by rw [← HE1.out, List.getElem?_map, hmk]; rfl
      have hnx := outN_next es k (mE m) hek
      have hnl := outN_len es (k + 1)
      obtain ⟨da, dc, hdv⟩ := (Arc.Dat.rds (HM1.out.dat m (List.mem_of_getElem? hmk))).len
      rw [hdv] at d2
      have hal := hI.alloc (.cells #[.string (mk m.name), .int .i64 m.date, .slice da m.data.length dc] 185)
      obtain ⟨bv, W2, hc1, hb2, hrd, hpc⟩ : ∃ bv W2, (convert 9 33 (.string (mk m.name ++ ⟨#[10]⟩))).run Tryz.prog (wr.alloc (.cells #[.string (mk m.name), .int .i64 m.date, .slice da m.data.length dc] 185)) = .ok bv W2 ∧ Below (wr.alloc (.cells #[.string (mk m.name), .int .i64 m.date, .slice da m.data.length dc] 185)).heap.size (wr.alloc (.cells #[.string (mk m.name), .int .i64 m.date, .slice da m.data.length dc] 185)) W2 ∧ Rds W2 bv (m.name ++ [10]) ∧ ∀ a n c, bv = .slice a n c → n ≤ c := by
        have happ : mk m.name ++ ⟨#[10]⟩ = mk (m.name ++ [10]) := by simp [mk, ByteArray.ext_iff]
        rw [happ]
        have hcv := conv_new (wr.alloc (.cells #[.string (mk m.name), .int .i64 m.date, .slice da m.data.length dc] 185)) (m.name ++ [10])
        have hcr := conv_rds (wr.alloc (.cells #[.string (mk m.name), .int .i64 m.date, .slice da m.data.length dc] 185)) (m.name ++ [10])
        exact ⟨_, _, hcv.1, hcv.2, hcr.1, fun a n c e => by cases e; exact hcr.2⟩
      have hnm : (mE m).1 = m.name := rfl
      have hz : List.length m.name ≤ 100000 := by
        exact (HW.out.nm (mE m) (List.mem_of_getElem? hek)).1
      rw [hnm] at hnx
      have q := rprint (hal.below hb2) (by omega) bv (m.name ++ [10]) hrd hpc (by rw [hnx, List.length_append] at hnl; omega)
      have HQ := hide' q
      have HNX := hide' (And.intro hnx hnl)
      clear q hR hrow hI hal hb2 hrd hpc hnm hnx hnl hek
      go_wp2_with fail
      refine HQ.out.mono ?_
      rintro r w5 ⟨ov', rfl, hI5, _⟩
      have HI := hide' hI5
      clear hI5 HQ
      go_wp2_with fail
      refine ⟨⟨k + 1, ov', by omega, by go_num, ?_⟩, by simp [intOf]; omega⟩
      have h5 := HI.out
      have e : prP (outN (es.take k)) (m.name ++ [10]) = outN (es.take (k + 1)) := by
        rw [HNX.out.1]
        unfold prP
        have h1 := HNX.out.1
        have h2 := HNX.out.2
        rw [h1, List.length_append] at h2
        have h3 : List.length (m.name ++ [10]) ≤ 65536 - List.length (outN (es.take k)) := by omega
        rw [List.take_of_length_le h3]
      rw [e] at h5
      exact h5
    · have k1 : ¬ (k : Int) < ms.length := by omega
      have hke : k = es.length := by have := HEN.out; omega
      rw [hke, List.take_length] at hI
      have HI := hide' hI
      clear hI hke
      go_wp2_with fail
      go_ret
      exact ⟨rfl, ov, HI.out.early HB1.out⟩
end Go.Proofs.YtbfchadcpokjoaaGreatDoor
namespace Go.Proofs.YtbfchadcpokjoaaGreatDoor
open Go.RowKit Go.Maps

theorem info185 : (Tryz.prog.info? 185).map (fun i : TypeInfo => (i.zero, i.size, i.bytes)) = some (some (.agg #[.string ⟨#[]⟩, .int .i64 0, .slice none 0 0]), 3, 48) := by kernel_rfl
abbrev z185 : List Value := [.string ⟨#[]⟩, .int .i64 0, .slice none 0 0]
theorem heap_setCells (g : Nat) : ∀ (vs : List Value) (o : Nat) (w : World) (j : Nat), j ≠ g → (w.setCells g o vs).heap[j]? = w.heap[j]?
  | [], _, _, _, _ => rfl
  | v :: vs, o, w, j, h => (heap_setCells g vs (o + 1) (w.setCell ⟨g, o, none⟩ v) j h).trans (Below.heap_setCell _ ⟨g, o, none⟩ _ j (by simpa using h))
theorem setCells_turn (g : Nat) : ∀ (vs : List Value) (o : Nat) (w : World), Turn (· = g) w (w.setCells g o vs)
  | [], _, w => Turn.refl _ w
  | v :: vs, o, w => by
    have h1 : Turn (· = g) w (w.setCell ⟨g, o, none⟩ v) := ⟨rfl, rfl, rfl, by simp, fun k _ hn => Below.heap_setCell _ ⟨g, o, none⟩ _ k (by simpa using hn)⟩
    exact h1.trans' (setCells_turn g vs (o + 1) _)
theorem clear_one (W : World) (ty : TypeId) (g o c : Nat) (hc : ∀ j, j < 3 → (W.cell? ⟨g, o + j, none⟩).isSome = true) (hf : ∀ j, j < 3 → W.frozen? ⟨g, o + j, none⟩ = false) :
    (Builtin.clear_ #[180] ty #[.slice (some ⟨g, o, none⟩) 1 c]).run Tryz.prog W = .ok (.tuple #[]) (W.setCells g o z185) := by
  have hv : ∀ w : World, (zeroValue 185).run Tryz.prog w = .ok (.agg #[.string ⟨#[]⟩, .int .i64 0, .slice none 0 0]) w := fun w => by kernel_rfl
  have hzc : (Builtin.zeroCells (Value.agg #[.string ⟨#[]⟩, .int .i64 0, .slice none 0 0]).cells 1).toList = z185 := by kernel_rfl
  have hst := run_storeCells_cells (P := Tryz.prog) g o z185 0 W (by simpa using hc) (by simpa using hf) (by intro v hv'; simp [z185] at hv'; rcases hv' with rfl | rfl | rfl <;> rfl)
  simp only [Nat.add_zero] at hst
  simp [Builtin.clear_, run_underlying Tryz.underlying180, hv, hzc, hst]
theorem wp_append180 {v x v' : Value} {w w' : World} {o : Oper} {a : Act} {K : Act → World → Prop} {Q : Exit → Act → World → Prop} (s y : Operand)
    (ho : o.op = .call { callee := .builtin .append, args := #[s, y], argTypes := #[180, 180] }) (hs : a.eval s = v) (hy : a.eval y = x)
    (hr : (Builtin.append_ #[180, 180] o.type #[v, x]).run Tryz.prog w = .ok v' w') (h : K (a.put o.dst v') w') : o.wp Tryz.prog a w K Q := by
  unfold Oper.wp execOp
  simp only [ho, resolve, invoke, builtin, Sem.run_bind, Sem.run_pure, Result.andThen_ok, List.map_toArray, List.map_cons, List.map_nil, hs, hy, hr]
  exact h
structure DlC (w : World) : Prop where
  t : True
set_option maxRecDepth 100000 in
set_option maxHeartbeats 4000000 in
theorem delete_first (g cap n : Nat) (rest : List Value) (w : World) (hr : rest.length = n * 3) (hn : n ≤ 1000) (hc : n + 1 ≤ cap) (h1 : ∀ u ∈ rest, u.oneCell' = true) (hcl : ∀ j u, rest[j]? = some u → w.cell? ⟨g, 3 + j, none⟩ = some u)
    (hs : ∀ j, j < (n + 1) * 3 → (w.cell? ⟨g, j, none⟩).isSome = true) (hz : ∀ j, j < (n + 1) * 3 → w.frozen? ⟨g, j, none⟩ = false) :
    Calls Tryz.prog 131 #[.slice (some ⟨g, 0, none⟩) (n + 1) cap, .int .i64 0, .int .i64 1] w fun r w' => r = .returned (.slice (some ⟨g, 0, none⟩) n cap) ∧ Turn (· = g) w w' ∧ ∀ j u, rest[j]? = some u → w'.cell? ⟨g, j, none⟩ = some u := by
  obtain ⟨inf, hi, hz0, hz1, hz2⟩ := info_parts info185
  obtain ⟨a, ha, hsl⟩ : ∃ a, (n ≠ 0 → a = ⟨g, 3, none⟩) ∧ ∀ W : World, (Instr.slice 180 (.slice (some ⟨g, 0, none⟩) (n + 1) cap) (some (.int .i64 1)) none none).run Tryz.prog W = .ok (.slice (some a) n (cap - 1)) W := by
    refine ⟨if cap = 1 then ⟨g, 0, none⟩ else ⟨g, 3, none⟩, fun h => by rw [if_neg (by omega)], fun W => ?_⟩
    by_cases hck : cap = 1
    · simp [Instr.slice, Instr.sliceBounds, Instr.sliceBound, run_underlying Tryz.underlying180, asIntOf, sizeOf, typeInfo, hi, hck]; omega
    · simp [Instr.slice, Instr.sliceBounds, Instr.sliceBound, run_underlying Tryz.underlying180, asIntOf, sizeOf, typeInfo, hi, hz1, hck, Addr.add_lit]; omega
  have hs0 : ∀ W : World, (Instr.slice 180 (.slice (some ⟨g, 0, none⟩) (n + 1) cap) none (some (.int .i64 0)) none).run Tryz.prog W = .ok (.slice (some ⟨g, 0, none⟩) 0 cap) W := fun W => by
    simp [Instr.slice, Instr.sliceBounds, Instr.sliceBound, run_underlying Tryz.underlying180, asIntOf, sizeOf, typeInfo, hi, Addr.add]
  have hsc : ∀ W : World, (Instr.slice 180 (.slice (some ⟨g, 0, none⟩) n cap) (some (.int .i64 n)) (some (.int .i64 ((n : Int) + 1))) none).run Tryz.prog W = .ok (.slice (some ⟨g, n * 3, none⟩) 1 (cap - n)) W := fun W => by
    have hne : ¬ cap = n := by omega
    simp [Instr.slice, Instr.sliceBounds, Instr.sliceBound, run_underlying Tryz.underlying180, asIntOf, sizeOf, typeInfo, hi, hz1, Addr.add_lit, hne]
    omega
  have hsrc : ∀ W : World, (∀ j u, rest[j]? = some u → W.cell? ⟨g, 3 + j, none⟩ = some u) → Src Tryz.prog inf.size 180 (.slice (some a) n (cap - 1)) n rest W := fun W hW => by
    rw [hz1]
    refine Src.ofSlice W Tryz.underlying180 a n (cap - 1) rest hr (fun j u hj => ?_) h1
    have : n ≠ 0 := fun e => by subst e; have := (List.getElem?_eq_some_iff.1 hj).1; omega
    rw [ha this, Addr.add_lit]
    exact hW j u hj
  go_enter Tryz.func131, Tryz.ntmps131
  have HC : Hid (DlC w.drew) := hide' ⟨trivial⟩
  have hap : (Builtin.append_ #[180, 180] 180 #[.slice (some ⟨g, 0, none⟩) 0 cap, .slice (some a) n (cap - 1)]).run Tryz.prog w.drew = .ok (.slice (some ⟨g, 0, none⟩) (0 + n) cap) (w.drew.setCells g (0 + 0 * inf.size) rest) :=
    run_append_room_src w.drew 180 180 180 185 inf Tryz.underlying180 hi g 0 0 cap _ n rest (hsrc _ hcl) (by omega) (fun j hj => by simpa using hs j (by omega)) (fun j hj => by simpa using hz j (by omega))
  rw [Nat.zero_add, Nat.zero_mul, Nat.add_zero] at hap
  obtain ⟨w1, hw1⟩ : ∃ w1, w1 = w.drew.setCells g 0 rest := ⟨_, rfl⟩
  rw [← hw1] at hap
  have hcc : ∀ j, j < 3 → (w1.cell? ⟨g, n * 3 + j, none⟩).isSome = true := fun j hj => by
    rw [hw1]
    by_cases h0 : n * 3 + j < rest.length
    · have h := World.cell?_setCells_in g rest 0 w.drew (fun k hk => by simpa using hs k (by omega)) (n * 3 + j) h0
      rw [Nat.zero_add] at h
      rw [h]; rfl
    · rw [World.cell?_setCells_out g rest 0 w.drew ⟨g, n * 3 + j, none⟩ (fun _ _ => .inr (by simpa using h0))]
      exact hs (n * 3 + j) (by omega)
  have hcf : ∀ j, j < 3 → w1.frozen? ⟨g, n * 3 + j, none⟩ = false := fun j hj => by
    rw [hw1, World.frozen?_setCells]
    exact hz _ (by omega)
  have hcr := fun ty => clear_one w1 ty g (n * 3) (cap - n) hcc hcf
  have hfin : Turn (· = g) w (w1.setCells g (n * 3) z185) := by
    rw [hw1]
    exact ((Turn.refl _ w).drew.trans' (setCells_turn g rest 0 w.drew)).trans' (setCells_turn g z185 (n * 3) _)
  have hcell : ∀ j u, rest[j]? = some u → (w1.setCells g (n * 3) z185).cell? ⟨g, j, none⟩ = some u := fun j u hj => by
    have hjl := (List.getElem?_eq_some_iff.1 hj).1
    rw [World.cell?_setCells_out g z185 (n * 3) w1 ⟨g, j, none⟩ (fun _ _ => .inl (by simp only; omega)), hw1]
    have := World.cell?_setCells_in g rest 0 w.drew (fun k hk => by simpa using hs k (by omega)) j hjl
    simp only [Nat.zero_add] at this
    rw [this]
    exact (List.getElem?_eq_getElem hjl ▸ hj)
  have HF := hide' (And.intro hfin hcell)
  clear hfin hcell hcc hcf hw1 hsrc hcl hs hz
  go_upto_region 5 with fail
  refine wp_region_classX [] (C := DlC) (by kernel_rfl) ?_
  (refine wpAnyX_take (i := 0) (v := ?_) HC.out rfl (by kernel_rfl) (by kernel_rfl) (by kernel_rfl) (by kernel_rfl) (fun _ _ _ h => h) (Or.inl ⟨by kernel_rfl, ?_⟩) ?_; rotate_left; (intro w hc; clear hc; go_simp; try with_reducible rfl))
  (refine wpAnyX_take (i := 1) (v := ?_) HC.out rfl (by kernel_rfl) (by kernel_rfl) (by kernel_rfl) (by kernel_rfl) (fun _ _ _ h => h) (Or.inl ⟨by kernel_rfl, ?_⟩) ?_; rotate_left; (intro w hc; clear hc; go_simp; try with_reducible rfl))
  (refine wpAnyX_take (i := 2) (v := ?_) HC.out rfl (by kernel_rfl) (by kernel_rfl) (by kernel_rfl) (by kernel_rfl) (fun _ _ _ h => h) (Or.inl ⟨by kernel_rfl, ?_⟩) ?_; rotate_left; (intro w hc; clear hc; go_simp; try with_reducible rfl))
  (refine wpAnyX_take (i := 3) (v := ?_) HC.out rfl (by kernel_rfl) (by kernel_rfl) (by kernel_rfl) (by kernel_rfl) (fun _ _ _ h => h) (Or.inl ⟨by kernel_rfl, ?_⟩) ?_; rotate_left; (intro w hc; clear hc; go_simp; try with_reducible rfl))
  (refine wpAnyX_take (i := 4) (v := ?_) HC.out rfl (by kernel_rfl) (by kernel_rfl) (by kernel_rfl) (by kernel_rfl) (fun _ _ _ h => h) (Or.inl ⟨by kernel_rfl, ?_⟩) ?_; rotate_left; (intro w hc; clear hc; go_simp; try with_reducible rfl))
  (refine wpAnyX_take (i := 5) (v := ?_) HC.out rfl (by kernel_rfl) (by kernel_rfl) (by kernel_rfl) (by kernel_rfl) (fun _ _ _ h => h) (Or.inl ⟨by kernel_rfl, ?_⟩) ?_; rotate_left; (intro w hc; clear hc; go_simp; try with_reducible rfl))
  go_simp
  refine wpAnyX_one (i := 6) (by kernel_rfl) (wpOp_wanted rfl (by rfl) ?_)
  refine wp_append180 (v := .slice (some ⟨g, 0, none⟩) 0 cap) (x := .slice (some a) n (cap - 1)) _ _ rfl rfl rfl hap ?_
  refine ⟨fun _ => ⟨trivial⟩, ?_⟩
  refine wpAnyX_one (i := 7) (by kernel_rfl) (wpOp_wanted rfl (by rfl) ?_)
  go_simp
  refine ⟨⟨trivial⟩, ?_⟩
  refine wpAnyX_done (by kernel_rfl) ?_ _
  clear hap
  go_wp2
  go_ret
  exact ⟨rfl, HF.out⟩
end Go.Proofs.YtbfchadcpokjoaaGreatDoor
namespace Go.Proofs.YtbfchadcpokjoaaGreatDoor
open Go.RowKit Go.Maps

theorem flat_get {ms : List Arc.Mv} {i r : Nat} {m : Arc.Mv} {u : Value} (hi : ms[i]? = some m) (hr : r < 3) (hu : (Arc.cellsM m)[r]? = some u) : (Arc.flat ms)[i * 3 + r]? = some u := by
  induction ms generalizing i with
  | nil => simp at hi
  | cons a l ih =>
    show (Arc.cellsM a ++ Arc.flat l)[i * 3 + r]? = some u
    cases i with
    | zero =>
      have : a = m := by simpa using hi
      subst this
      rw [List.getElem?_append_left (by simp [Arc.cellsM]; omega)]
      simpa using hu
    | succ i =>
      rw [List.getElem?_append_right (by simp [Arc.cellsM]; omega)]
      have h : (i + 1) * 3 + r - (Arc.cellsM a).length = i * 3 + r := by simp [Arc.cellsM]; omega
      rw [h]
      exact ih (by simpa using hi)
theorem one_flat {w : World} {ms : List Arc.Mv} (h : ∀ x ∈ ms, Dat w x.dv x.data) : ∀ u ∈ Arc.flat ms, u.oneCell' = true := by
  intro u hu
  unfold Arc.flat at hu
  rw [List.mem_flatMap] at hu
  obtain ⟨x, hx, hu⟩ := hu
  obtain ⟨a, c, e⟩ := (h x hx).len
  simp only [Arc.cellsM, List.mem_cons, List.not_mem_nil, or_false] at hu
  rcases hu with rfl | rfl | rfl
  · rfl
  · rfl
  · rw [e]; rfl
theorem status_flt (g : Nat) (w : World) : Calls Tryz.prog 103 #[.iface 174 (.pointer (some ⟨g, 0, none⟩))] w fun r w' => r = .returned (.int .i64 1) ∧ w' = w := by
  have hn := neq_flt
  go_enter Tryz.func103, Tryz.ntmps103
  go_wp2
  go_ret
  exact ⟨rfl, rfl⟩
set_option maxRecDepth 100000 in
set_option maxHeartbeats 2000000 in
theorem tellData_none (C : Nat) (p n : Bs) (lv : Value) (w : World) (es : List Ee) (hm : Calls Tryz.prog 127 #[.pointer (some ⟨C, 0, none⟩), .string (mk p)] w (MbV w es)) (hw : Wl es) (hv : Txs w lv [n]) (hk : placeE es n = -1) :
    Calls Tryz.prog 101 #[.pointer (some ⟨C, 0, none⟩), .string (mk p), lv] w fun r w' => ∃ g, r = .returned (.iface 174 (.pointer (some ⟨g, 0, none⟩))) ∧ Below w.heap.size w w' := by
  rcases hv with ⟨_, _, _, hbad⟩ | ⟨gn, on, cn, rfl, h2, h3, h4⟩
  · cases hbad
  have x0 : w.cell? ⟨gn, on, none⟩ = some (.string (mk n)) := h4 0 n rfl
  have HM := hide' hm
  have HW := hide' hw
  have hnn := neq_nil57
  clear hm hw h4
  show Calls Tryz.prog 101 #[_, _, .slice (some ⟨gn, on, none⟩) 1 cn] w _
  go_enter Tryz.func101, Tryz.ntmps101
  go_wp2_with fail
  refine HM.out.mono ?_
  rintro r w1 ⟨hb1, v1, ms, rfl, hm1, he1⟩
  have x1 : w1.cell? ⟨gn, on, none⟩ = some (.string (mk n)) := (hb1.cell (p := ⟨gn, on, none⟩) h3).trans x0
  have hml : ms.length ≤ 1000 := by have := HW.out.n; rw [← he1, List.length_map] at this; exact this
  have qf := afind _ ms n w1 hm1.mems (by omega)
  rw [place_map, he1, hk] at qf
  obtain ⟨la, lc, hse⟩ := hm1.mems.len
  subst hse
  have HQF := hide' qf
  have HB1 := hide' hb1
  clear hm1 he1 hb1 HM qf x0
  go_wp2_with fail
  refine wp_loop_rounds 2 ?_
  rw [rounds_succ]
  go_wp2_with fail
  refine HQF.out.mono ?_
  rintro r w2 ⟨rfl, hb2⟩
  have HB2 := hide' (HB1.out.trans (hb2.mono HB1.out.size))
  clear hb2 HQF
  go_wp2_with fail
  refine (met_err w2 (mk n) 10 (by decide)).mono ?_
  rintro r w3 ⟨rfl, rfl⟩
  go_wp2_with fail
  go_ret
  exact ⟨_, rfl, HB2.out.alloc HB2.out.size _⟩
set_option maxRecDepth 100000 in
set_option maxHeartbeats 2000000 in
theorem dropMembers_ok (B A C : Nat) (E : Addr) (T T' : Tr) (clk clk' rm : Int) (p n : Bs) (S : Nat → Prop) (y iv ov lv : Value) (w : World) (e : Ee) (es : List Ee) (hC : CallAt w C (.pointer (some ⟨A, 0, none⟩)) y iv ov) (h : IsFs w S A T clk rm) (hG : Glo B w E) (hB : B ≤ w.heap.size) (hS : ∀ i, S i → B ≤ i) (hk1 : clk ≤ 1099511627776000) (hpl : p.length ≤ 1000) (hE : AEnv w)
    (hm : Calls Tryz.prog 127 #[.pointer (some ⟨C, 0, none⟩), .string (mk p)] w (MbV w (e :: es))) (hv : Txs w lv [n]) (hk : placeE (e :: es) n = 0) (hw : Wl (e :: es)) (hw' : Wl es) (hwr : writeR T clk rm (clean p) (arcE es) false = (0, T', clk')) :
    Calls Tryz.prog 102 #[.pointer (some ⟨C, 0, none⟩), .string (mk p), lv] w fun r w' => r = .returned .nilIface ∧ FsOk S A rm T' clk' w w' := by
  have hCl := lt_of_block hC
  rcases hv with ⟨_, _, _, hbad⟩ | ⟨gn, on, cn, rfl, h2, h3, h4⟩
  · cases hbad
  have x0 : w.cell? ⟨gn, on, none⟩ = some (.string (mk n)) := h4 0 n rfl
  have qw := fun (W : World) (hb : Below w.heap.size w W) (v : Value) (ms : List Arc.Mv) (hM : Arc.Mems W v ms) (he : ms.map mE = es) => wmembers_ok B A C E T T' clk clk' rm p S y iv ov v ms W es ((hb.block C hCl).trans hC) (h.below hb) (hG.keep (hb.mono hB)) (Nat.le_trans hB hb.size) hS hk1 hpl (hE.keep hb hE.lt) hM he hw' hwr
  have HM := hide' hm
  have HW := hide' hw
  have HQW := hide' qw
  have hnn := neq_nil57
  clear hm hw hw' hC h4 qw h hG hS hE hwr
  show Calls Tryz.prog 102 #[_, _, .slice (some ⟨gn, on, none⟩) 1 cn] w _
  go_enter Tryz.func102, Tryz.ntmps102
  go_wp2_with fail
  refine HM.out.mono ?_
  rintro r w1 ⟨hb1, v1, ms, rfl, hm1, he1⟩
  have x1 : w1.cell? ⟨gn, on, none⟩ = some (.string (mk n)) := (hb1.cell (p := ⟨gn, on, none⟩) h3).trans x0
  have hml : ms.length ≤ 1000 := by have := HW.out.n; rw [← he1, List.length_map] at this; exact this
  obtain ⟨m, mr, rfl⟩ : ∃ m mr, ms = m :: mr := by
    cases ms with
    | nil => cases he1
    | cons m mr => exact ⟨m, mr, rfl⟩
  have hmr : mr.map mE = es := by injection he1
  have qf := afind _ (m :: mr) n w1 hm1.mems (by omega)
  rw [place_map, he1, hk] at qf
  rcases hm1.row with ⟨_, hbad⟩ | ⟨g, lc, cur, hse, hg0, hg1, hcap, hcs, htk⟩
  · cases hbad
  subst hse
  have HQF := hide' qf
  have HB1 := hide' hb1
  have HM1 := hide' hm1
  have HMR := hide' hmr
  have HG1 := hide' hg1
  have HTK := hide' htk
  have hs1 := hb1.size
  have hgl := lt_of_block hg1
  clear hm1 he1 hb1 HM qf x0 hmr hg1 htk
  rw [show (m :: mr).length = mr.length + 1 from rfl] at HQF hml hcap ⊢
  generalize hmn : mr.length = mn at HQF hml hcap ⊢
  have HMN := hide' hmn
  clear hmn
  go_wp2_with fail
  refine wp_loop_rounds 2 ?_
  rw [rounds_succ]
  go_wp2_with fail
  refine HQF.out.mono ?_
  rintro r w2 ⟨rfl, hb2⟩
  have hg2 : w2.heap[g]? = some (.cells cur 185 (0, 0)) := (hb2.block g hgl).trans HG1.out
  have HB2 := hide' (HB1.out.trans (hb2.mono HB1.out.size))
  have hm2 := HM1.out.below hb2
  have hdr : ∀ x ∈ mr, Dat w2 x.dv x.data := fun x hx => hm2.dat x (by simp [hx])
  have hcur : ∀ j u, (Arc.flat mr)[j]? = some u → w2.cell? ⟨g, 3 + j, none⟩ = some u := fun j u hj => by
    have hjl := (List.getElem?_eq_some_iff.1 hj).1
    have h3 : (Arc.flat (m :: mr))[3 + j]? = some u := by
      show (Arc.cellsM m ++ Arc.flat mr)[3 + j]? = some u
      rw [List.getElem?_append_right (by simp [Arc.cellsM])]
      simpa [Arc.cellsM] using hj
    rw [Lib.cell_of_heap hg2]
    have htk := HTK.out
    have hl := Arc.flat_len mr
    rw [← htk, List.getElem?_take_of_lt (by simp only [List.length_cons]; omega), Array.getElem?_toList] at h3
    exact h3
  have hsz : (mn + 1) * 3 ≤ cur.size := Nat.le_trans (Nat.mul_le_mul_right 3 hcap) hcs
  have qd := delete_first g lc mn (Arc.flat mr) w2 (by rw [Arc.flat_len, HMN.out]) (by omega) hcap (one_flat hdr) hcur (fun j hj => by rw [Lib.cell_of_heap hg2]; simp; omega) (fun j hj => Lib.frozen_of_heap hg2 j)
  have HQD := hide' qd
  have HDR := hide' hdr
  have HG2 := hide' hg2
  clear qd hcur hm2 hb2 HQF hdr hg2 hsz
  go_wp2_with fail
  refine HQD.out.mono ?_
  rintro r w3 ⟨rfl, ht, hcl⟩
  have hB3 : Below w.heap.size w w3 := HB2.out.trans (Turn.below ht HB2.out.size (fun i hi => by subst hi; exact hg0))
  have hM3 : Arc.Mems w3 (.slice (some ⟨g, 0, none⟩) mn lc) mr := by
    rw [← HMN.out]
    by_cases hmr : mr = []
    · subst hmr; exact .inl ⟨⟨_, _, rfl⟩, rfl⟩
    · refine .inr ⟨g, 0, lc, rfl, by rw [HMN.out]; omega, ⟨Nat.lt_of_lt_of_le (lt_of_block HG2.out) ht.size, fun i x hi => ?_, fun i x hi => ?_, fun i x hi => ?_⟩, fun x hx => ?_⟩
      · have := hcl (i * 3 + 0) (.string (mk x.name)) (flat_get hi (by decide) rfl)
        simpa using this
      · have := hcl (i * 3 + 1) (.int .i64 x.date) (flat_get hi (by decide) rfl)
        simpa using this
      · have := hcl (i * 3 + 2) x.dv (flat_get hi (by decide) rfl)
        simpa using this
      · refine (Dat.kept (HDR.out x hx) fun g' hg' => ht.block g' ((HDR.out x hx).lt g' hg') fun e => ?_).rds
        subst e
        rcases HDR.out x hx with ⟨e1, _⟩ | ⟨g5, c5, cur5, e1, e2, _⟩
        · rw [e1] at hg'; cases hg'
        · rw [e1] at hg'
          have e3 : g5 = g' := Option.some.inj hg'
          subst e3
          rw [HG2.out] at e2
          injection e2 with e2
          injection e2 with _ e2 _
          exact absurd e2 (by decide)
  have q := HQW.out w3 hB3 _ mr hM3 HMR.out
  have HQ := hide' q
  have HB3 := hide' hB3
  clear q hB3 hM3 ht hcl HQD HDR
  go_wp2_with fail
  rw [rounds_succ]
  go_wp2_with fail
  refine HQ.out.mono ?_
  rintro r w9 ⟨rfl, S', hf, ht, hsb⟩
  go_wp2_with fail
  go_ret
  exact ⟨rfl, S', hf, (Turn.of_below (S := S) HB3.out).trans' ht, fun i hi => (hsb i hi).imp_right fun h => Nat.le_trans HB3.out.size h⟩
end Go.Proofs.YtbfchadcpokjoaaGreatDoor
namespace Go.Proofs.YtbfchadcpokjoaaGreatDoor
open Go.RowKit Go.Maps

set_option maxRecDepth 100000 in
set_option maxHeartbeats 2000000 in
theorem tellData_ok (C : Nat) (p n : Bs) (y iv fv lv : Value) (w : World) (es : List Ee) (k : Nat) (e : Ee) (hC : CallAt w C fv y iv (.slice none 0 0)) (hm : Calls Tryz.prog 127 #[.pointer (some ⟨C, 0, none⟩), .string (mk p)] w (MbV w es)) (hw : Wl es) (hv : Txs w lv [n]) (hk : placeE es n = (k : Nat)) (he : es[k]? = some e) (hd : e.2.2.length ≤ 60000) :
    Calls Tryz.prog 101 #[.pointer (some ⟨C, 0, none⟩), .string (mk p), lv] w fun r w' => r = .returned .nilIface ∧ ∃ ov', RdI w C fv y iv ov' e.2.2 w' := by
  have hCl := lt_of_block hC
  rcases hv with ⟨_, _, _, hbad⟩ | ⟨gn, on, cn, rfl, h2, h3, h4⟩
  · cases hbad
  have x0 : w.cell? ⟨gn, on, none⟩ = some (.string (mk n)) := h4 0 n rfl
  have HM := hide' hm
  have HW := hide' hw
  have HC := hide' hC
  have hnn := neq_nil57
  clear hm hw hC h4
  show Calls Tryz.prog 101 #[_, _, .slice (some ⟨gn, on, none⟩) 1 cn] w _
  go_enter Tryz.func101, Tryz.ntmps101
  go_wp2_with fail
  refine HM.out.mono ?_
  rintro r w1 ⟨hb1, v1, ms, rfl, hm1, he1⟩
  have x1 : w1.cell? ⟨gn, on, none⟩ = some (.string (mk n)) := (hb1.cell (p := ⟨gn, on, none⟩) h3).trans x0
  have hmk' : (ms.map mE)[k]? = some e := by rw [he1]; exact he
  obtain ⟨m, hmk, hme⟩ : ∃ m, ms[k]? = some m ∧ mE m = e := by
    rw [List.getElem?_map] at hmk'
    cases hx : ms[k]? with
    | none => rw [hx] at hmk'; cases hmk'
    | some m => rw [hx] at hmk'; exact ⟨m, rfl, Option.some.inj hmk'⟩
  have hkl : k < ms.length := (List.getElem?_eq_some_iff.1 hmk).1
  have hml : ms.length ≤ 1000 := by have := HW.out.n; rw [← he1, List.length_map] at this; exact this
  obtain ⟨g, lc, hse, hg0, hg1, hcap, hrow⟩ := ms_row hm1 (fun e => by rw [e] at hkl; simp at hkl)
  subst hse
  have qf := afind _ ms n w1 hm1.mems (by omega)
  rw [place_map, he1, hk] at qf
  have HQF := hide' qf
  have HM1 := hide' hm1
  have HB1 := hide' hb1
  have HROW := hide' hrow
  have hs1 := hb1.size
  have k1 : ¬ (k : Int) < 0 := by omega
  have k2 : (k : Int) < ms.length := by omega
  clear hm1 he1 hb1 HM hmk' qf hrow x0
  go_wp2_with fail
  refine wp_loop_rounds 2 ?_
  rw [rounds_succ]
  go_wp2_with fail
  refine HQF.out.mono ?_
  rintro r w2 ⟨rfl, hb2⟩
  have hB2 := HB1.out.trans (hb2.mono HB1.out.size)
  have hR := HROW.out w2 (hb2.block g hg1)
  have d0 : w2.cell? ⟨g, 0 + k * 3, none⟩ = some (.string (mk m.name)) := hR.c0 k m hmk
  have d1 := hR.c1 k m hmk
  have d2 := hR.c2 k m hmk
  rw [Nat.zero_add] at d0 d1 d2
  have hm2 := HM1.out.below hb2
  have hdat := hm2.dat m (List.mem_of_getElem? hmk)
  have hown := hm2.hi m (List.mem_of_getElem? hmk)
  obtain ⟨da, dc, hdv⟩ := (Arc.Dat.rds hdat).len
  rw [hdv] at d2 hdat hown
  have hb9 : Below w2.heap.size w2 (w2.alloc (.cells #[.string (mk m.name), .int .i64 m.date, .slice da m.data.length dc] 185)) := (Below.refl _ _).alloc (Nat.le_refl _) _
  have hbl9 := Arc.Bld.nil (w2.alloc (.cells #[.string (mk m.name), .int .i64 m.date, .slice da m.data.length dc] 185)) w.heap.size
  have hown9 := hbl9.own
  have hB9 := hB2.trans (hb9.mono hB2.size)
  have hwz := hB9.size
  have HK := hide' (And.intro hdat (And.intro hown (And.intro hB9 (And.intro hb9 hbl9))))
  have hs2 := hb2.size
  clear hR hm2 hdat hown hb9 hbl9 hB9 hb2 HQF HROW HM1 hmk hB2
  obtain ⟨inf, hi, hz0, hz1, hz2⟩ := info_parts Arc.info37
  go_wp2_with (at_builtin; refine wpList_append_lies _ rfl _ _ 180 rfl w.heap.size 185 inf _ 3 48 Tryz.underlying180 hi hz0 hz1 hz2 rfl (by decide) (.slice none 0 0) 0 (Arc.flat []) rfl hown9 ⟨w2.heap.size, 0, none⟩ 1 1 (Arc.cellsM ⟨m.name, m.date, .slice da m.data.length dc, m.data⟩) rfl rfl (Arc.news_cells w2 ⟨m.name, m.date, .slice da m.data.length dc, m.data⟩) (Arc.news_one _ _ _ _ _ _) (by decide) (by unfold maxLen; omega) (by omega) hwz _ rfl ?_)
  clear d0 d1 d2
  intro g9 c9 w9 hown10 hgr hat hlt
  obtain ⟨hdat, hown, hB9, hb9, hbl9⟩ := HK.out
  have hbl10 := hbl9.step (x := ⟨m.name, m.date, .slice da m.data.length dc, m.data⟩) (hdat.kept fun g hg => hb9.block g (hdat.lt g hg)) hown hgr hown10
  have hB10 := hbl9.grown hgr hB9 (Nat.le_refl _) hwz
  have hm10 := hbl10.msAt
  obtain ⟨g10, c10, hse, hg2, hg3, hcap2, hrow2⟩ := ms_row hm10 (by simp)
  cases hse
  have hR2 := hrow2 w9 rfl
  have d0 : w9.cell? ⟨g9, 0 + 0 * 3, none⟩ = some (.string (mk m.name)) := hR2.c0 0 ⟨m.name, m.date, .slice da m.data.length dc, m.data⟩ rfl
  have d1 := hR2.c1 0 _ rfl
  have d2 := hR2.c2 0 _ rfl
  simp only [Nat.zero_add, Nat.zero_mul] at d0 d1 d2
  have hd10 := hm10.dat ⟨m.name, m.date, .slice da m.data.length dc, m.data⟩ (by simp)
  have hbx : Below w9.heap.size w9 (w9.alloc (.cells #[.string (mk m.name), .int .i64 m.date, .slice da m.data.length dc] 185)) := (Below.refl _ _).alloc (Nat.le_refl _) _
  have hI : RdI w9 C fv y iv (.slice none 0 0) [] w9 := ⟨(hB10.block C hCl).trans HC.out, .inl ⟨rfl, rfl⟩, by simp, fun g hg => (by cases hg), Turn.refl _ _⟩
  have hdx : Dat w9 (.slice da m.data.length dc) m.data := hd10
  have hde : m.data = e.2.2 := by rw [← hme]; rfl
  have q := rprint (hI.below hbx) (by have := hB10.size; omega) (.slice da m.data.length dc) m.data (hdx.rds.below hbx) (fun a n c e => by
    cases e
    rcases hdx with ⟨e1, e2⟩ | ⟨_, _, _, e1, _, e3, _⟩
    · simp only [Value.slice.injEq] at e1; omega
    · cases e1; exact e3) (by rw [hde]; omega)
  have HQ := hide' q
  have HB := hide' hB10
  have HDE := hide' hde
  clear hde hme hdv
  clear q hI hbx hdx hd10 hR2 hrow2 hm10 hB10 hbl10 hdat hown hB9 hb9 hbl9 HK hown10 hgr hat hown9 hi hz0 hz1 hz2
  go_wp2_with fail
  rw [rounds_succ]
  go_wp2_with fail
  refine wp_loop_rounds 2 ?_
  rw [rounds_succ]
  go_wp2_with fail
  refine HQ.out.mono ?_
  rintro r w11 ⟨ov', rfl, hI11, _⟩
  have HI := hide' hI11
  clear hI11 HQ
  go_wp2_with fail
  rw [rounds_succ]
  go_wp2_with fail
  go_ret
  have h := HI.out.early HB.out
  have e1 : prP [] m.data = e.2.2 := by
    unfold prP
    rw [List.nil_append, HDE.out]
    have h3 : List.length e.2.2 ≤ 65536 - List.length ([] : Bs) := by simp; omega
    rw [List.take_of_length_le h3]
  rw [e1] at h
  exact ⟨rfl, ov', h⟩
end Go.Proofs.YtbfchadcpokjoaaGreatDoor
