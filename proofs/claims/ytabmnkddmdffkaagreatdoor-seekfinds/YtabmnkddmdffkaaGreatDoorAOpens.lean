import Derived.Test.YtabmnkddmdffkaaGreatDoorAFrame
import Derived.Test.YtabmnkddmdffkaaGreatDoorALaw
import Derived.SizedLaws
import Derived.ChangeSlices
import Derived.Lib.SmallJoins
import Derived.Deep.Strs
namespace Go.Proofs.YtabmnkddmdffkaaGreatDoor
open Go.ChangeShapes Go.WideShapes Go.ChangeAt Go.WideMaps Go.WideElems Go.RowKit
theorem cells5 : Tryz.prog.cellsOf 5 = 1 := by kernel_rfl
theorem cells9 : Tryz.prog.cellsOf 9 = 1 := by kernel_rfl
theorem cells3 : Tryz.prog.cellsOf 3 = 1 := by kernel_rfl
theorem cells4 : Tryz.prog.cellsOf 4 = 1 := by kernel_rfl
theorem cells43 : Tryz.prog.cellsOf 57 = 1 := by kernel_rfl
theorem cells22 : Tryz.prog.cellsOf 22 = 1 := by kernel_rfl
theorem cells55 : Tryz.prog.cellsOf 60 = 4 := by kernel_rfl
theorem cells29 : Tryz.prog.cellsOf 29 = 2 := by kernel_rfl
theorem cells24 : Tryz.prog.cellsOf 24 = 3 := by kernel_rfl
theorem bytes5 : Tryz.prog.bytesOf 5 = 1 := by kernel_rfl
theorem bytes55 : Tryz.prog.bytesOf 60 = 56 := by kernel_rfl
theorem bytes29 : Tryz.prog.bytesOf 29 = 32 := by kernel_rfl
section
variable {H : Type} {enc : TypeId × Value → H} {W : World} {held : Bool}
def Small (d : DataW H) (t : TypeId) : Prop := ∀ m ∈ d.weights Tryz.prog t, m ≤ reachBytes
theorem list_of {α : Type} {p : Nat → α → Prop} : ∀ (len : Nat), (∀ i, i < len → ∃ n, p i n) → ∃ ns : List α, ns.length = len ∧ ∀ i n, ns[i]? = some n → p i n
 | 0, _ => ⟨[], rfl, fun i n h => by simp at h⟩
 | len + 1, h => by
  obtain ⟨ns, hl, hp⟩ := list_of len fun i hi => h i (by omega)
  obtain ⟨x, hx⟩ := h len (by omega)
  refine ⟨ns ++ [x], by simp [hl], fun i n hi => ?_⟩
  by_cases hil : i < ns.length
  ·rw [List.getElem?_append_left hil] at hi; exact hp i n hi
  ·rw [List.getElem?_append_right (by omega)] at hi
   have h0 : i - ns.length = 0 := by
    have := (List.getElem?_eq_some_iff.1 hi).1
    simp at this
    omega
   rw [h0] at hi
   simp at hi
   obtain rfl : i = len := by omega
   exact hi ▸ hx
theorem small_len {t e : TypeId} {es sp : List (DataW H)} (hu : Tryz.prog.underlying t = some (.slice e)) (h : Small (.slice es sp) t) : (es.length + sp.length) * Tryz.prog.bytesOf e ≤ reachBytes := h _ (by simp [DataW.weights, hu])
theorem rds_of {v : Value} {fuel : Nat} {x : DataW H × List MemPlace} (h : DataW.trod enc Tryz.prog W 0 (fun _ => true) held fuel 57 [v] = some x) (hs : Small x.1 57) : ∃ bs, Rds W v bs ∧ bs.length ≤ 140737488355328 := by
 rcases open_ints Tryz.underlying57 Tryz.underlying5 cells5 h with ⟨hcs, rfl⟩ | ⟨a, len, cap, zs, hcs, _, hl, hm, hz, rfl, hcell, hwf⟩
 ·cases hcs
  exact ⟨[], .inl ⟨rfl, rfl⟩, by simp⟩
 ·cases hcs
  simp only [if_true] at hz
  have hlen : ((zs.take len).map fun z => UInt8.ofNat z.toNat).length = len := by rw [List.length_map, List.length_take]; omega
  have hR : len ≤ reachBytes := by
   have := small_len Tryz.underlying57 hs
   rw [bytes5] at this
   simp only [lits, List.length_map, List.length_take, List.length_drop] at this
   omega
  refine ⟨(zs.take len).map fun z => UInt8.ofNat z.toNat, .inr ⟨a, cap, by rw [hlen], fun hne => ?_, fun j u hj => ?_⟩, by rw [hlen]; unfold reachBytes at hR; omega⟩
  ·have : 0 < len := by
    have := List.length_pos_iff.2 hne
    omega
   have := World.block_lt_of_cell? _ _ (hcell 0 (by omega))
   rwa [add_block] at this
  ·have hjl : j < len := by
    have := (List.getElem?_eq_some_iff.1 hj).1
    rw [Lib.byteCells_length, hlen] at this
    exact this
   have hc := hcell j (by omega)
   rw [hc]
   have hzj : zs.getD j 0 = zs[j]'(by omega) := by rw [List.getD_eq_getElem?_getD, List.getElem?_eq_getElem (by omega)]; rfl
   have hb := bounds_u8 (hwf (zs[j]'(by omega)) (List.getElem_mem _))
   have hj' : (Lib.byteCells ((zs.take len).map fun z => UInt8.ofNat z.toNat))[j]? = some (.int .u8 (zs[j]'(by omega))) := by
    unfold Lib.byteCells
    rw [List.getElem?_map, List.getElem?_map, List.getElem?_take_of_lt hjl, List.getElem?_eq_getElem (by omega)]
    simp only [Option.map_some, Option.some.injEq, Value.int.injEq, true_and]
    rw [UInt8.toNat_ofNat']
    omega
   rw [hj] at hj'
   rw [hzj]
   exact hj'.symm
theorem small_each {ts : List TypeId} {parts : List (DataW H)} {t : TypeId} {fs : Array Field} (hu : Tryz.prog.underlying t = some (.struct fs)) (ht : fs.toList.map (·.type) = ts) (h : Small (.agg parts) t) {i : Nat} {u : TypeId} {d : DataW H} (h1 : ts[i]? = some u) (h2 : parts[i]? = some d) : Small d u := by
 intro m hm
 refine h m ?_
 simp only [DataW.weights, hu, ht]
 exact DataW.weights_mem_each h1 h2 m hm
theorem weights_in (e : TypeId) (l : List (DataW H)) (d : DataW H) (hd : d ∈ l) (n : Nat) (hn : n ∈ d.weights Tryz.prog e) : n ∈ DataW.weightsAll Tryz.prog e l := by
 induction l with
 | nil => cases hd
 | cons d' r ih =>
  simp only [DataW.weightsAll, List.mem_append]
  rcases List.mem_cons.1 hd with rfl | h
  ·exact Or.inl hn
  ·exact Or.inr (ih h)
theorem small_elem {t e : TypeId} {es sp : List (DataW H)} (hu : Tryz.prog.underlying t = some (.slice e)) (h : Small (.slice es sp) t) {d : DataW H} (hd : d ∈ es) : Small d e := by
 intro m hm
 refine h m ?_
 simp only [DataW.weights, hu, List.mem_cons, List.mem_append]
 exact .inr (.inl (weights_in e es d hd m hm))
theorem three {cs : List Value} (h : cs.length = 3) : ∃ a b c, cs = [a, b, c] := by
 match cs, h with
 | [a, b, c], _ => exact ⟨a, b, c, rfl⟩
theorem four {cs : List Value} (h : cs.length = 4) : ∃ a b c d, cs = [a, b, c, d] := by
 match cs, h with
 | [a, b, c, d], _ => exact ⟨a, b, c, d, rfl⟩
theorem node_of {cs : List Value} {fuel : Nat} {x : DataW H × List MemPlace} (h : DataW.trod enc Tryz.prog W 0 (fun _ => true) held fuel 60 cs = some x) (hs : Small x.1 60) : ∃ n : Nv, cs = cellsN n ∧ Rds W n.dv n.nd.data ∧ Lim n := by
 obtain ⟨y0, y1, y2, y3, m, rfl, hl, h0, h1, h2, h3⟩ := Joins.trod_struct4 Tryz.underlying60 h
 rw [cells55] at hl
 obtain ⟨c0, c1, c2, c3, rfl⟩ := four hl
 simp only [cells9, cells4, cells3, cells43, List.drop_zero, List.drop_succ_cons, List.take_succ_cons, List.take_zero] at h0 h1 h2 h3
 obtain ⟨s, e0, r0, hsz⟩ := DataW.trod_string Tryz.underlying9 h0
 obtain ⟨b, e1, r1⟩ := DataW.trod_bool Tryz.underlying4 h1
 obtain ⟨t, e2, r2, _⟩ := DataW.trod_int Tryz.underlying3 h2
 cases e0; cases e1; cases e2
 have hs0 : Small y0.1 9 := small_each Tryz.underlying60 rfl hs (i := 0) rfl rfl
 have hs3 : Small y3.1 57 := small_each Tryz.underlying60 rfl hs (i := 3) rfl rfl
 obtain ⟨bs, hr, hb⟩ := rds_of h3 hs3
 rw [r0] at hs0
 have hp := hs0 s.data.toList.length (by simp [DataW.weights])
 refine ⟨⟨s.data.toList, c3, ⟨b, t, bs⟩⟩, ?_, hr, ?_, hb⟩
 ·unfold cellsN
  have : mk s.data.toList = s := by apply ByteArray.ext; simp
  rw [this]
 ·unfold reachBytes at hp
  simp only
  omega
theorem nodes_of {v : Value} {fuel : Nat} {x : DataW H × List MemPlace} (h : DataW.trod enc Tryz.prog W 0 (fun _ => true) held fuel 22 [v] = some x) (hs : Small x.1 22) : ∃ ns, Nodes W v ns ∧ (∀ n ∈ ns, Lim n) ∧ ns.length ≤ 140737488355328 := by
 rcases DataW.trod_slice Tryz.underlying22 h with ⟨hcs, rfl⟩ | ⟨a, len, cap, elems, rest, m, _, hcs, rfl, _, hl, hm, hlen, hel, _, _⟩
 ·cases hcs
  exact ⟨[], .inl ⟨⟨_, _, rfl⟩, rfl⟩, fun n hn => (by cases hn), by simp⟩
 ·cases hcs
  simp only at hs
  have hlb := small_len Tryz.underlying22 hs
  rw [bytes55, List.length_map, List.length_map] at hlb
  have each : ∀ i, i < len → ∃ n : Nv, W.cells? 0 (a.add (i * 4)) 4 = some (cellsN n) ∧ Rds W n.dv n.nd.data ∧ Lim n := by
   intro i hi
   have hb := hel i hi
   rw [cells55, List.getElem?_eq_getElem (by omega), Option.bind_eq_some_iff] at hb
   obtain ⟨cs, hc, hy⟩ := hb
   obtain ⟨n, rfl, h1, h2⟩ := node_of hy (small_elem Tryz.underlying22 hs (List.mem_map.2 ⟨_, List.getElem_mem _, rfl⟩))
   exact ⟨n, hc, h1, h2⟩
  obtain ⟨ns, hnl, hns⟩ := list_of len each
  have hlim : ∀ n ∈ ns, Rds W n.dv n.nd.data ∧ Lim n := fun n hn => by
   obtain ⟨i, hi⟩ := List.getElem?_of_mem hn
   exact (hns i n hi).2
  refine ⟨ns, ?_, fun n hn => (hlim n hn).2, by unfold reachBytes at hlb; omega⟩
  by_cases h0 : len = 0
  ·subst h0
   obtain rfl : ns = [] := List.length_eq_zero_iff.1 hnl
   exact .inl ⟨⟨_, _, rfl⟩, rfl⟩
  ·have hcell : ∀ i n, ns[i]? = some n → ∀ j, j < 4 → W.cell? ((a.add (i * 4)).add j) = (cellsN n)[j]? := fun i n hi j hj => (World.cells?_some (hns i n hi).1).2.2 j hj
   obtain ⟨n0, hn0⟩ : ∃ n, ns[0]? = some n := ⟨_, List.getElem?_eq_getElem (by omega)⟩
   obtain ⟨b, off, spot⟩ := a
   have hc0 := hcell 0 n0 hn0 0 (by omega)
   have hspot : spot = none := by simpa [Addr.add] using World.cell?_spot (show W.cell? _ = some (.string (mk n0.path)) from hc0)
   subst hspot
   have hpl : ∀ i j, ((⟨b, off, none⟩ : Addr).add (i * 4)).add j = ⟨b, off + i * 4 + j, none⟩ := fun i j => by rw [Go.WideShapes.add_plain, Go.WideShapes.add_plain]
   have hblk : b < W.heap.size := by
    have := World.block_lt_of_cell? _ _ (show W.cell? _ = some (.string (mk n0.path)) from hc0)
    rw [add_block, add_block] at this
    exact this
   refine .inr ⟨b, off, cap, by rw [hnl], by omega, ⟨hblk, fun i n hi => ?_, fun i n hi => ?_, fun i n hi => ?_, fun i n hi => ?_⟩, fun n hn => (hlim n hn).1⟩
   ·have := hcell i n hi 0 (by omega); rw [hpl] at this; exact this
   ·have := hcell i n hi 1 (by omega); rw [hpl] at this; exact this
   ·have := hcell i n hi 2 (by omega); rw [hpl] at this; exact this
   ·have := hcell i n hi 3 (by omega); rw [hpl] at this; exact this
theorem two {cs : List Value} (h : cs.length = 2) : ∃ a b, cs = [a, b] := by
 match cs, h with
 | [a, b], _ => exact ⟨a, b, rfl⟩
theorem pair_of {cs : List Value} {fuel : Nat} {x : DataW H × List MemPlace} (h : DataW.trod enc Tryz.prog W 0 (fun _ => true) held fuel 29 cs = some x) (hs : Small x.1 29) : ∃ p : Sk.Prw, cs = [.string p.1, .string p.2] ∧ p.1.size ≤ 140737488355328 ∧ p.2.size ≤ 140737488355328 := by
 obtain ⟨y0, y1, m, rfl, hl, h0, h1⟩ := trod_struct2 Tryz.underlying29 h
 rw [cells29] at hl
 obtain ⟨c0, c1, rfl⟩ := two hl
 simp only [cells9, List.drop_zero, List.drop_succ_cons, List.take_succ_cons, List.take_zero] at h0 h1
 obtain ⟨s, e0, r0, _⟩ := DataW.trod_string Tryz.underlying9 h0
 obtain ⟨q, e1, r1, _⟩ := DataW.trod_string Tryz.underlying9 h1
 cases e0; cases e1
 have hs0 : Small y0.1 9 := small_each Tryz.underlying29 rfl hs (i := 0) rfl rfl
 have hs1 : Small y1.1 9 := small_each Tryz.underlying29 rfl hs (i := 1) rfl rfl
 rw [r0] at hs0
 rw [r1] at hs1
 have hp := hs0 s.data.toList.length (by simp [DataW.weights])
 have hq := hs1 q.data.toList.length (by simp [DataW.weights])
 rw [← Lib.size_eq] at hp hq
 unfold reachBytes at hp hq
 exact ⟨(s, q), rfl, by simp only; omega, by simp only; omega⟩
theorem pairs_of {v : Value} {fuel : Nat} {x : DataW H × List MemPlace} (h : DataW.trod enc Tryz.prog W 0 (fun _ => true) held fuel 25 [v] = some x) (hs : Small x.1 25) : ∃ ps, Sk.PaAt W v ps ∧ (∀ p ∈ ps, p.1.size ≤ 140737488355328 ∧ p.2.size ≤ 140737488355328) ∧ ps.length ≤ 140737488355328 := by
 rcases DataW.trod_slice Tryz.underlying25 h with ⟨hcs, rfl⟩ | ⟨a, len, cap, elems, rest, m, _, hcs, rfl, _, hl, hm, hlen, hel, _, _⟩
 ·cases hcs
  exact ⟨[], ⟨none, 0, rfl, Nat.le_refl _, fun _ => rfl, fun j x hx => by simp at hx⟩, fun n hn => (by cases hn), by simp⟩
 ·cases hcs
  simp only at hs
  have hlb := small_len Tryz.underlying25 hs
  rw [bytes29, List.length_map, List.length_map] at hlb
  have each : ∀ i, i < len → ∃ n : Sk.Prw, W.cells? 0 (a.add (i * 2)) 2 = some [.string n.1, .string n.2] ∧ n.1.size ≤ 140737488355328 ∧ n.2.size ≤ 140737488355328 := by
   intro i hi
   have hb := hel i hi
   rw [cells29, List.getElem?_eq_getElem (by omega), Option.bind_eq_some_iff] at hb
   obtain ⟨cs, hc, hy⟩ := hb
   obtain ⟨n, rfl, h1, h2⟩ := pair_of hy (small_elem Tryz.underlying25 hs (List.mem_map.2 ⟨_, List.getElem_mem _, rfl⟩))
   exact ⟨n, hc, h1, h2⟩
  obtain ⟨os, hnl, hns⟩ := list_of len each
  refine ⟨os, ?_, fun n hn => ?_, by unfold reachBytes at hlb; omega⟩
  ·by_cases h0 : len = 0
   ·subst h0
    obtain rfl : os = [] := List.length_eq_zero_iff.1 hnl
    exact ⟨some a, cap, rfl, Nat.zero_le _, (fun e => nomatch e), fun j x hx => by simp at hx⟩
   ·have hcell : ∀ i n, os[i]? = some n → ∀ j, j < 2 → W.cell? ((a.add (i * 2)).add j) = ([.string n.1, .string n.2] : List Value)[j]? := fun i n hi j hj => (World.cells?_some (hns i n hi).1).2.2 j hj
    obtain ⟨n0, hn0⟩ : ∃ n, os[0]? = some n := ⟨_, List.getElem?_eq_getElem (by omega)⟩
    obtain ⟨b, off, spot⟩ := a
    have hc0 := hcell 0 n0 hn0 0 (by omega)
    have hspot : spot = none := by simpa [Addr.add] using World.cell?_spot (show W.cell? _ = some (.string n0.1) from hc0)
    subst hspot
    have hpl : ∀ i j, ((⟨b, off, none⟩ : Addr).add (i * 2)).add j = ⟨b, off + i * 2 + j, none⟩ := fun i j => by rw [Go.WideShapes.add_plain, Go.WideShapes.add_plain]
    have hblk : b < W.heap.size := by
     have := World.block_lt_of_cell? _ _ (show W.cell? _ = some (.string n0.1) from hc0)
     rw [add_block, add_block] at this
     exact this
    refine ⟨some ⟨b, off, none⟩, cap, by rw [hnl], by omega, (fun e => nomatch e), fun i n hi => ⟨b, off, rfl, hblk, ?_, ?_⟩⟩
    ·have := hcell i n hi 0 (by omega); rw [hpl] at this; exact this
    ·have := hcell i n hi 1 (by omega); rw [hpl] at this; exact this
  ·obtain ⟨i, hi⟩ := List.getElem?_of_mem hn
   exact (hns i n hi).2
theorem tree_of {cs : List Value} {fuel : Nat} {x : DataW H × List MemPlace} (h : DataW.trod enc Tryz.prog W 0 (fun _ => true) held fuel 24 cs = some x) (hs : Small x.1 24) : ∃ v ns clk rm, cs = [v, .int .i64 clk, .int .i64 rm] ∧ Nodes W v ns ∧ (∀ n ∈ ns, Lim n) ∧ ns.length ≤ 140737488355328 := by
 obtain ⟨y0, y1, y2, m, rfl, hl, h0, h1, h2⟩ := Deep.trod_struct3 Tryz.underlying24 h
 rw [cells24] at hl
 obtain ⟨c0, c1, c2, rfl⟩ := three hl
 simp only [cells22, cells3, List.drop_zero, List.drop_succ_cons, List.take_succ_cons, List.take_zero] at h0 h1 h2
 obtain ⟨t, e1, r1, _⟩ := DataW.trod_int Tryz.underlying3 h1
 obtain ⟨r, e2, r2, _⟩ := DataW.trod_int Tryz.underlying3 h2
 cases e1; cases e2
 have hs0 : Small y0.1 22 := small_each Tryz.underlying24 rfl hs (i := 0) rfl rfl
 obtain ⟨ns, a1, a2, a3⟩ := nodes_of h0 hs0
 exact ⟨c0, ns, t, r, rfl, a1, a2, a3⟩
end
end Go.Proofs.YtabmnkddmdffkaaGreatDoor
