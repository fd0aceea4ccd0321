import Derived.Test.YtabmnkddmdffkaaGreatDoorATreeAnyG
import Derived.Lib.SlBytesRow
import Derived.Lib.BufferRead
namespace Go.Proofs.YtabmnkddmdffkaaGreatDoor
open Go.RowKit Go.Maps
theorem cell_old {W : World} {a : Addr} {v : Value} (o : Obj) (h : W.cell? a = some v) : (W.alloc o).cell? a = some v := (((Below.refl W.heap.size W).alloc (Nat.le_refl _) o).cell (p := a) (World.block_lt_of_cell? _ _ h)).trans h
theorem nums_mk (bs : Bs) : strOfNums (bs.map fun x => (x.toNat : Int)) = mk bs := by
 apply ByteArray.ext
 apply Array.toList_inj.1
 rw [strOfNums_data, List.map_map]
 show _ = bs
 conv => rhs; rw [← List.map_id bs]
 apply List.map_congr_left
 intro x _
 simp
theorem rds_str {w : World} {v : Value} {bs : Bs} (h : Rds w v bs) : (convert 57 9 v).run Tryz.prog w = .ok (.string (mk bs)) w := by
 rcases h with ⟨rfl, rfl⟩ | ⟨a, cap, rfl, _, hc⟩
 ·exact Lib.run_convert_nil_bytes w 57 9 5 0 Tryz.underlying57 Tryz.underlying5 Tryz.underlying9
 ·have hx : Lib.byteCells bs = (bs.map fun x => (x.toNat : Int)).map (Value.int .u8) := by rw [List.map_map]; rfl
  have hl : (loadCells a bs.length).run Tryz.prog w = .ok ((bs.map fun x => (x.toNat : Int)).map (Value.int .u8)).toArray w := by
   have := run_loadCells_list (P := Tryz.prog) w a (Lib.byteCells bs) hc
   rw [Lib.byteCells_length, hx] at this
   exact this
  rw [run_convert_bytes_string w 57 9 5 _ bs.length cap Tryz.underlying57 Tryz.underlying5 Tryz.underlying9, run_bytesToString w _ bs.length cap _ hl, foldl_push_bytes, ← nums_mk]
  simp [strOfNums, ByteArray.empty, ByteArray.emptyWithCapacity]
  rfl
theorem toE_iff (a b : Nv) : toE a = toE b ↔ a.path = b.path ∧ a.nd.dir = b.nd.dir ∧ a.nd.time = b.nd.time ∧ a.nd.data = b.nd.data := by
 unfold toE
 obtain ⟨p, dv, d, t, x⟩ := a
 obtain ⟨p', dv', d', t', x'⟩ := b
 simp only [Prod.mk.injEq, Nd.mk.injEq]
theorem map_ne {ns ms : List Nv} {k : Nat} {n m : Nv} (hn : ns[k]? = some n) (hm : ms[k]? = some m) (h : ¬ toE n = toE m) : ¬ ns.map toE = ms.map toE := by
 intro e
 have := congrArg (·[k]?) e
 simp only [List.getElem?_map, hn, hm, Option.map_some, Option.some.injEq] at this
 exact h this
theorem map_step {ns ms : List Nv} {k : Nat} {n m : Nv} (hn : ns[k]? = some n) (hm : ms[k]? = some m) (h : (ns.take k).map toE = (ms.take k).map toE) (e : toE n = toE m) : (ns.take (k + 1)).map toE = (ms.take (k + 1)).map toE := by
 rw [List.take_add_one, List.take_add_one, List.map_append, List.map_append, h, hn, hm]
 simp [e]
set_option maxRecDepth 100000 in
set_option maxHeartbeats 4000000 in
theorem same_row (g o cap g' o' cap' : Nat) (ns ms : List Nv) (clk rm : Int) (w : World) (h : NRow w g o ns) (hr : ∀ n ∈ ns, Rds w n.dv n.nd.data) (h' : NRow w g' o' ms) (hr' : ∀ n ∈ ms, Rds w n.dv n.nd.data) (hl : ns.length = ms.length) (hml : ms.length ≤ 1000000) (_hc : ms.length ≤ cap) (_hc' : ms.length ≤ cap') :
  Calls Tryz.prog 16 #[.agg #[.slice (some ⟨g, o, none⟩) ms.length cap, .int .i64 clk, .int .i64 rm], .agg #[.slice (some ⟨g', o', none⟩) ms.length cap', .int .i64 clk, .int .i64 rm]] w fun r w' => (∃ b, r = .returned (.bool b) ∧ (b = true ↔ ns.map toE = ms.map toE)) ∧ Below w.heap.size w w' := by
 have hb0 : Below w.heap.size w ((w.alloc (.cells #[.slice (some ⟨g, o, none⟩) ms.length cap, .int .i64 clk, .int .i64 rm] 24)).alloc (.cells #[.slice (some ⟨g', o', none⟩) ms.length cap', .int .i64 clk, .int .i64 rm] 24)) := ((Below.refl _ _).alloc (Nat.le_refl _) _).alloc (by simp) _
 go_enter Tryz.func16, Tryz.ntmps16
 go_wp2
 have z1 := (Below.heap_alloc (w.alloc (.cells #[.slice (some ⟨g, o, none⟩) ms.length cap, .int .i64 clk, .int .i64 rm] 24)) (.cells #[.slice (some ⟨g', o', none⟩) ms.length cap', .int .i64 clk, .int .i64 rm] 24) w.heap.size (by simp)).trans (alloc_new w _)
 have z2 := alloc_new (w.alloc (.cells #[.slice (some ⟨g, o, none⟩) ms.length cap, .int .i64 clk, .int .i64 rm] 24)) (.cells #[.slice (some ⟨g', o', none⟩) ms.length cap', .int .i64 clk, .int .i64 rm] 24)
 rw [size_alloc'] at z2
 obtain ⟨w0, hw0⟩ : ∃ w0, w0 = ((w.alloc (.cells #[.slice (some ⟨g, o, none⟩) ms.length cap, .int .i64 clk, .int .i64 rm] 24)).alloc (.cells #[.slice (some ⟨g', o', none⟩) ms.length cap', .int .i64 clk, .int .i64 rm] 24)) := ⟨_, rfl⟩
 have hs0 : w0.heap.size = w.heap.size + 2 := by rw [hw0]; simp
 rw [← hw0] at hb0 z1 z2 ⊢
 clear hw0
 go_loopw [5] (fun i wr => ∃ k : Nat, k ≤ ms.length ∧ i = .int .i64 k ∧ (ns.take k).map toE = (ms.take k).map toE ∧ Below w0.heap.size w0 wr) (fun i _ => ms.length - (intOf i).toNat)
 case atStart => exact ⟨0, by omega, rfl, rfl, Below.refl _ _⟩
 case round =>
  obtain ⟨k, hk, rfl, hE, hB⟩ := hrel
  have y1 := (hB.block _ (by omega)).trans z1
  have y2 := (hB.block _ (by omega)).trans z2
  have a0 : wr.cell? ⟨w.heap.size, 0, none⟩ = some (.slice (some ⟨g, o, none⟩) ms.length cap) := by rw [Lib.cell_of_heap y1]; rfl
  have b0 : wr.cell? ⟨w.heap.size + 1, 0, none⟩ = some (.slice (some ⟨g', o', none⟩) ms.length cap') := by rw [Lib.cell_of_heap y2]; rfl
  have hBw : Below w.heap.size w wr := hb0.trans (hB.mono (by omega))
  have hsr := hB.size
  by_cases hkl : k < ms.length
  ·obtain ⟨n, hn⟩ : ∃ n, ns[k]? = some n := ⟨_, List.getElem?_eq_getElem (by omega)⟩
   obtain ⟨m, hm⟩ : ∃ m, ms[k]? = some m := ⟨_, List.getElem?_eq_getElem hkl⟩
   have hR := h.below hBw
   have hR' := h'.below hBw
   have d0 := hR.c0 k n hn
   have d1 := hR.c1 k n hn
   have d2 := hR.c2 k n hn
   have d3 := hR.c3 k n hn
   have e0 := hR'.c0 k m hm
   have e1 := hR'.c1 k m hm
   have e2 := hR'.c2 k m hm
   have e3 := hR'.c3 k m hm
   have hrn := (hr n (List.mem_of_getElem? hn)).below hBw
   have hrm := (hr' m (List.mem_of_getElem? hm)).below hBw
   obtain ⟨da, dc, hdv⟩ := hrn.len
   obtain ⟨ea, ec, hev⟩ := hrm.len
   rw [hdv] at d3 hrn
   rw [hev] at e3 hrm
   have k2 : (k : Int) < ms.length := by omega
   have hne := map_ne hn hm
   have hst := map_step hn hm hE
   rw [toE_iff] at hne hst
   obtain ⟨p, dv, d, t, x⟩ := n
   obtain ⟨p', dv', d', t', x'⟩ := m
   simp only at *
   have hBa : ∀ o1 o2 : Obj, Below wr.heap.size wr ((wr.alloc o1).alloc o2) := fun o1 o2 => ((Below.refl _ _).alloc (Nat.le_refl _) _).alloc (by simp) _
   have hBz : ∀ o1 o2 : Obj, Below w0.heap.size w0 ((wr.alloc o1).alloc o2) := fun o1 o2 => hB.trans ((hBa o1 o2).mono hsr)
   have hcx := fun o1 o2 => rds_str (hrn.below (hBa o1 o2))
   have hcy := fun o1 o2 => rds_str (hrm.below (hBa o1 o2))
   have b0' := fun o => cell_old (W := wr) o b0
   have e0' := fun o => cell_old (W := wr) o e0
   have e1' := fun o => cell_old (W := wr) o e1
   have e2' := fun o => cell_old (W := wr) o e2
   have e3' := fun o => cell_old (W := wr) o e3
   clear hR hR' h h' hr hr' hrn hrm hn hm hB y1 y2
   go_wp2
   ·rename_i _ _ _ hx
    have hbad := hne (fun e => by rw [e.2.2.2] at hx; simp at hx)
    go_ret
    exact ⟨⟨false, rfl, by simp [hbad]⟩, hb0.trans ((hBz _ _).mono (by omega))⟩
   ·rename_i h1 h2 h3 hx
    have h4 : x = x' := by simpa using hx
    exact ⟨⟨k + 1, by omega, by simp, hst ⟨h1, h2, h3, h4⟩, hBz _ _⟩, by simp [intOf]; omega⟩
   ·rename_i _ _ hx
    have hbad := hne (fun e => by rw [e.2.2.1] at hx; simp at hx)
    go_ret
    exact ⟨⟨false, rfl, by simp [hbad]⟩, hb0.trans ((hBz _ _).mono (by omega))⟩
   ·rename_i _ hx
    have hbad := hne (fun e => by rw [e.2.1] at hx; simp at hx)
    go_ret
    exact ⟨⟨false, rfl, by simp [hbad]⟩, hb0.trans ((hBz _ _).mono (by omega))⟩
   ·rename_i hx
    have hbad := hne (fun e => by rw [e.1] at hx; simp at hx)
    go_ret
    exact ⟨⟨false, rfl, by simp [hbad]⟩, hb0.trans ((hBz _ _).mono (by omega))⟩
  ·obtain rfl : k = ms.length := by omega
   rw [List.take_length, ← hl, List.take_length] at hE
   go_wp2
   go_ret
   exact ⟨⟨true, rfl, by simp [hE]⟩, hBw⟩
set_option maxRecDepth 100000 in
set_option maxHeartbeats 4000000 in
theorem same_nil (a a' : Option Addr) (cap cap' : Nat) (clk rm : Int) (w : World) :
  Calls Tryz.prog 16 #[.agg #[.slice a 0 cap, .int .i64 clk, .int .i64 rm], .agg #[.slice a' 0 cap', .int .i64 clk, .int .i64 rm]] w fun r w' => r = .returned (.bool true) ∧ Below w.heap.size w w' := by
 have hb0 : Below w.heap.size w ((w.alloc (.cells #[.slice a 0 cap, .int .i64 clk, .int .i64 rm] 24)).alloc (.cells #[.slice a' 0 cap', .int .i64 clk, .int .i64 rm] 24)) := ((Below.refl _ _).alloc (Nat.le_refl _) _).alloc (by simp) _
 go_enter Tryz.func16, Tryz.ntmps16
 go_wp2
 go_loopw [5] (fun i wr => i = .int .i64 0 ∧ wr = ((w.alloc (.cells #[.slice a 0 cap, .int .i64 clk, .int .i64 rm] 24)).alloc (.cells #[.slice a' 0 cap', .int .i64 clk, .int .i64 rm] 24))) (fun _ _ => 0)
 case atStart => exact ⟨rfl, rfl⟩
 case round =>
  obtain ⟨rfl, rfl⟩ := hrel
  go_wp2
  go_ret
  exact ⟨rfl, hb0⟩
set_option maxRecDepth 100000 in
set_option maxHeartbeats 4000000 in
theorem same_no (a a' : Option Addr) (n n' cap cap' : Nat) (clk rm clk' rm' : Int) (w : World) (h : ¬ (clk = clk' ∧ rm = rm' ∧ n = n')) :
  Calls Tryz.prog 16 #[.agg #[.slice a n cap, .int .i64 clk, .int .i64 rm], .agg #[.slice a' n' cap', .int .i64 clk', .int .i64 rm']] w fun r w' => r = .returned (.bool false) ∧ Below w.heap.size w w' := by
 have hb0 : Below w.heap.size w ((w.alloc (.cells #[.slice a n cap, .int .i64 clk, .int .i64 rm] 24)).alloc (.cells #[.slice a' n' cap', .int .i64 clk', .int .i64 rm'] 24)) := ((Below.refl _ _).alloc (Nat.le_refl _) _).alloc (by simp) _
 by_cases h1 : clk = clk'
 ·by_cases h2 : rm = rm'
  ·subst h1; subst h2
   have h3 : ¬ n = n' := fun e => h ⟨rfl, rfl, e⟩
   have h4 : ((n : Int) == (n' : Int)) = false := beq_eq_false_iff_ne.2 (by omega)
   have h5 : ¬ (n : Int) = (n' : Int) := by omega
   go_enter Tryz.func16, Tryz.ntmps16
   go_wp2
   go_ret
   exact ⟨rfl, hb0⟩
  ·subst h1
   have h4 : (rm == rm') = false := beq_eq_false_iff_ne.2 h2
   go_enter Tryz.func16, Tryz.ntmps16
   go_wp2
   go_ret
   exact ⟨rfl, hb0⟩
 ·have h4 : (clk == clk') = false := beq_eq_false_iff_ne.2 h1
  go_enter Tryz.func16, Tryz.ntmps16
  go_wp2
  go_ret
  exact ⟨rfl, hb0⟩
theorem Same_any (v v' : Value) (ns ms : List Nv) (clk rm clk' rm' : Int) (w : World) (h : Nodes w v ns) (h' : Nodes w v' ms) (hml : ms.length ≤ 1000000) :
  Calls Tryz.prog 16 #[.agg #[v, .int .i64 clk, .int .i64 rm], .agg #[v', .int .i64 clk', .int .i64 rm']] w fun r w' => (∃ b, r = .returned (.bool b) ∧ (b = true ↔ clk = clk' ∧ rm = rm' ∧ ns.map toE = ms.map toE)) ∧ Below w.heap.size w w' := by
 by_cases hc : clk = clk' ∧ rm = rm' ∧ ns.length = ms.length
 ·obtain ⟨rfl, rfl, hl⟩ := hc
  rcases h' with ⟨⟨a', c', rfl⟩, rfl⟩ | ⟨g', o', cap', rfl, h0', h1', h2'⟩
  ·obtain rfl : ns = [] := List.length_eq_zero_iff.1 hl
   obtain ⟨a, c, rfl⟩ := h.len
   exact (same_nil a a' c c' clk rm w).mono fun r w' ⟨hr, hb⟩ => ⟨⟨true, hr, by simp⟩, hb⟩
  ·rcases h with ⟨⟨a, c, rfl⟩, rfl⟩ | ⟨g, o, cap, rfl, h0, h1, h2⟩
   ·obtain rfl : ms = [] := List.length_eq_zero_iff.1 hl.symm
    exact (same_nil a _ c cap' clk rm w).mono fun r w' ⟨hr, hb⟩ => ⟨⟨true, hr, by simp⟩, hb⟩
   ·rw [hl] at h0 ⊢
    exact (same_row g o cap g' o' cap' ns ms clk rm w h1 h2 h1' h2' hl hml h0 h0').mono fun r w' ⟨⟨b, hr, hb1⟩, hb⟩ => ⟨⟨b, hr, by rw [hb1]; simp⟩, hb⟩
 ·obtain ⟨a, c, rfl⟩ := h.len
  obtain ⟨a', c', rfl⟩ := h'.len
  refine (same_no a a' ns.length ms.length c c' clk rm clk' rm' w hc).mono fun r w' ⟨hr, hb⟩ => ⟨⟨false, hr, ?_⟩, hb⟩
  constructor
  ·intro e; cases e
  ·rintro ⟨e1, e2, e3⟩
   exact absurd ⟨e1, e2, by have := congrArg List.length e3; simpa using this⟩ hc
end Go.Proofs.YtabmnkddmdffkaaGreatDoor
