/- From the walks to the rows, where the reach of what came in is wanted; calls as they are handed in. -/
import Derived.Test.YtillechackcbpaaFrame
import Derived.SliceStrings
import Derived.ChangeSlices
import Derived.Lib.SmallJoins
import Derived.Deep.Strs
import Derived.Test.YtillechackcbpaaMu
import Derived.SizedLaws
namespace Go.Proofs.Ytillechackcbpaa
open Go.ChangeShapes Go.WideShapes Go.ChangeAt Go.WideMaps Go.WideElems Go.RowKit

set_option maxRecDepth 100000 in
theorem wrapS {H : Type} {enc : TypeId × Value → H} {os : Os} {f : FuncId} {fn : Func} {s : ChangeSpec} (started : os.Started) (noInit : Try.prog.inits.idxOf? f = none) (hfn : Try.prog.funcs[f]? = some fn)
    (witness : ∃ (w : World) (tape : Tape) (i : Input), w.os = os ∧ (w.forCall tape i).Shaped Try.prog ∧ i.vars = [] ∧ Input.okWide Try.prog (w.forCall tape i) .any w.heap.size f i ∧
      ((s.pre enc Try.prog fn [] false (w.forCall tape i).memory i.args ∧ True) ∧ sizedMet enc Try.prog fn (OpenSpec.ofChange s) false (w.forCall tape i).memory i.args) ∧ Assume.holds {} Try.prog (lone (Frame.enter Try.prog f i.args .normal) [] (w.forCall tape i)))
    (contract : ∀ (W : World) (base : Nat) (args : Array Value) (ds gs : List (DataW H)) (before : List MemPlace), (∀ (j : Nat) t v, fn.params[j]? = some t → args[j]? = some v → Value.okWide Try.prog W .any base t v) →
      DataW.Whole enc Try.prog fn.params.toList s.vars false W args.toList ds gs before → (DataW.weightsEach Try.prog (fn.params.toList ++ s.plain.varTypes Try.prog) (ds ++ gs)).all (· ≤ reachBytes) = true →
      Calls Try.prog f args W fun e W' => ∃ v, e = .returned v ∧ s.post enc Try.prog fn false true false false W args v W') :
    ReturnsInHanded {} Try.checked os f .any (fun w args => s.pre enc Try.prog fn [] false w args ∧ sizedMet enc Try.prog fn (OpenSpec.ofChange s) false w args) (s.post enc Try.prog fn false true false false) := by
  obtain ⟨w0, t0, i0, a1, a2, a3, a4, ⟨⟨a5, _⟩, a6⟩, a7⟩ := witness
  refine returnsInHanded_of_calls (C := Try.checked) own started noInit ⟨w0, t0, i0, a1, a2, a3, a4, ⟨a5, a6⟩, a7⟩ ?_
  intro w tape i _ hsh _ hok hpre _
  obtain ⟨_, _, _, fn', hfn', _, _, _, _, hval⟩ := hok
  obtain rfl : fn' = fn := Option.some.inj (hfn'.symm.trans hfn)
  obtain ⟨⟨ds, gs, before, hw, _⟩, hz⟩ := hpre
  have hw' := DataW.Whole.of_heap (w' := w.forCall tape i) (by rfl) hw
  refine (contract (w.forCall tape i) w.heap.size i.args ds gs before hval hw' (hz.weights hw)).mono fun e W' ⟨v, he, hp⟩ => ?_
  subst he
  exact ChangeSpec.post_blind hp
theorem reach_le (s : ByteArray) (h : s.data.toList.length ≤ reachBytes) : s.size ≤ 140737488355328 := by
  rw [← Lib.size_eq] at h
  unfold reachBytes at h
  omega
theorem cells9 : Try.prog.cellsOf 9 = 1 := by kernel_rfl
theorem cells3 : Try.prog.cellsOf 3 = 1 := by kernel_rfl
theorem cells34 : Try.prog.cellsOf 34 = 5 := by kernel_rfl
theorem bytes34 : Try.prog.bytesOf 34 = 56 := by kernel_rfl
theorem laidOut : laidOutB Try.prog = true := by kernel_rfl
section
variable {H : Type} {enc : TypeId × Value → H} {W : World} {held : Bool}
def Small (d : DataW H) (t : TypeId) : Prop := ∀ m ∈ d.weights Try.prog t, m ≤ reachBytes
theorem list_of {α : Type} {p : Nat → α → Prop} : ∀ (len : Nat), (∀ i, i < len → ∃ n, p i n) → ∃ ns : List α, ns.length = len ∧ ∀ i n, ns[i]? = some n → p i n
  | 0, _ => ⟨[], rfl, fun i n h => by simp at h⟩
  | len + 1, h => by
    obtain ⟨ns, hl, hp⟩ := list_of len fun i hi => h i (by omega)
    obtain ⟨x, hx⟩ := h len (by omega)
    refine ⟨ns ++ [x], by simp [hl], fun i n hi => ?_⟩
    by_cases hil : i < ns.length
    · rw [List.getElem?_append_left hil] at hi; exact hp i n hi
    · rw [List.getElem?_append_right (by omega)] at hi
      have h0 : i - ns.length = 0 := by
        have := (List.getElem?_eq_some_iff.1 hi).1
        simp at this
        omega
      rw [h0] at hi
      simp at hi
      obtain rfl : i = len := by omega
      exact hi ▸ hx
theorem small_len {t e : TypeId} {es sp : List (DataW H)} (hu : Try.prog.underlying t = some (.slice e)) (h : Small (.slice es sp) t) : (es.length + sp.length) * Try.prog.bytesOf e ≤ reachBytes := h _ (by simp [DataW.weights, hu])
theorem small_each {ts : List TypeId} {parts : List (DataW H)} {t : TypeId} {fs : Array Field} (hu : Try.prog.underlying t = some (.struct fs)) (ht : fs.toList.map (·.type) = ts) (h : Small (.agg parts) t) {i : Nat} {u : TypeId} {d : DataW H} (h1 : ts[i]? = some u) (h2 : parts[i]? = some d) : Small d u := by
  intro m hm
  refine h m ?_
  simp only [DataW.weights, hu, ht]
  exact DataW.weights_mem_each h1 h2 m hm
theorem weights_in (e : TypeId) (l : List (DataW H)) (d : DataW H) (hd : d ∈ l) (n : Nat) (hn : n ∈ d.weights Try.prog e) : n ∈ DataW.weightsAll Try.prog e l := by
  induction l with
  | nil => cases hd
  | cons d' r ih =>
    simp only [DataW.weightsAll, List.mem_append]
    rcases List.mem_cons.1 hd with rfl | h
    · exact Or.inl hn
    · exact Or.inr (ih h)
theorem small_elem {t e : TypeId} {es sp : List (DataW H)} (hu : Try.prog.underlying t = some (.slice e)) (h : Small (.slice es sp) t) {d : DataW H} (hd : d ∈ es) : Small d e := by
  intro m hm
  refine h m ?_
  simp only [DataW.weights, hu, List.mem_cons, List.mem_append]
  exact .inr (.inl (weights_in e es d hd m hm))
theorem five {cs : List Value} (h : cs.length = 5) : ∃ a b c d e, cs = [a, b, c, d, e] := by
  match cs, h with
  | [a, b, c, d, e], _ => exact ⟨a, b, c, d, e, rfl⟩
theorem trod_struct5 {t : TypeId} {f0 f1 f2 f3 f4 : Field} {fuel : Nat} {cs : List Value} {x : DataW H × List MemPlace} (ht : Try.prog.underlying t = some (.struct #[f0, f1, f2, f3, f4])) (h : DataW.trod enc Try.prog W 0 (fun _ => true) held fuel t cs = some x) :
    ∃ y0 y1 y2 y3 y4 n, x.1 = .agg [y0.1, y1.1, y2.1, y3.1, y4.1] ∧ cs.length = Try.prog.cellsOf t ∧ DataW.trod enc Try.prog W 0 (fun _ => true) held n f0.type ((cs.drop f0.offset).take (Try.prog.cellsOf f0.type)) = some y0 ∧
      DataW.trod enc Try.prog W 0 (fun _ => true) held n f1.type ((cs.drop f1.offset).take (Try.prog.cellsOf f1.type)) = some y1 ∧ DataW.trod enc Try.prog W 0 (fun _ => true) held n f2.type ((cs.drop f2.offset).take (Try.prog.cellsOf f2.type)) = some y2 ∧
      DataW.trod enc Try.prog W 0 (fun _ => true) held n f3.type ((cs.drop f3.offset).take (Try.prog.cellsOf f3.type)) = some y3 ∧ DataW.trod enc Try.prog W 0 (fun _ => true) held n f4.type ((cs.drop f4.offset).take (Try.prog.cellsOf f4.type)) = some y4 := by
  obtain ⟨xs, n, _, rfl, hl, hlen, hf⟩ := DataW.trod_struct ht h
  match xs, hlen with
  | [y0, y1, y2, y3, y4], _ => exact ⟨y0, y1, y2, y3, y4, n, by simp, hl, by simpa using hf 0 f0 rfl, by simpa using hf 1 f1 rfl, by simpa using hf 2 f2 rfl, by simpa using hf 3 f3 rfl, by simpa using hf 4 f4 rfl⟩
theorem op_of {cs : List Value} {fuel : Nat} {x : DataW H × List MemPlace} (h : DataW.trod enc Try.prog W 0 (fun _ => true) held fuel 34 cs = some x) (hs : Small x.1 34) : ∃ n : Ov, cs = [.int .i64 n.kind, .string (mk n.nm), .string (mk n.vl), .int .i64 n.flav, .int .i64 n.orig] ∧ OLim n := by
  obtain ⟨y0, y1, y2, y3, y4, m, hx, hl, h0, h1, h2, h3, h4⟩ := trod_struct5 Try.underlying34 h
  rw [hx] at hs
  rw [cells34] at hl
  obtain ⟨c0, c1, c2, c3, c4, rfl⟩ := five hl
  simp only [cells9, cells3, List.drop_zero, List.drop_succ_cons, List.take_succ_cons, List.take_zero] at h0 h1 h2 h3 h4
  obtain ⟨t, e0, r0, _⟩ := DataW.trod_int Try.underlying3 h0
  obtain ⟨s, e1, r1, _⟩ := DataW.trod_string Try.underlying9 h1
  obtain ⟨q, e2, r2, _⟩ := DataW.trod_string Try.underlying9 h2
  obtain ⟨f, e3, r3, _⟩ := DataW.trod_int Try.underlying3 h3
  obtain ⟨o, e4, r4, _⟩ := DataW.trod_int Try.underlying3 h4
  cases e0; cases e1; cases e2; cases e3; cases e4
  have hs1 : Small y1.1 9 := small_each Try.underlying34 rfl hs (i := 1) rfl rfl
  have hs2 : Small y2.1 9 := small_each Try.underlying34 rfl hs (i := 2) rfl rfl
  rw [r1] at hs1
  rw [r2] at hs2
  have hp := hs1 s.data.toList.length (by simp [DataW.weights])
  have hq := hs2 q.data.toList.length (by simp [DataW.weights])
  unfold reachBytes at hp hq
  refine ⟨⟨t, tl s, tl q, f, o⟩, by rw [mk_tl, mk_tl], ?_, ?_⟩
  · show (tl s).length ≤ _
    unfold tl; omega
  · show (tl q).length ≤ _
    unfold tl; omega
theorem ops_of {v : Value} {fuel : Nat} {x : DataW H × List MemPlace} (h : DataW.trod enc Try.prog W 0 (fun _ => true) held fuel 22 [v] = some x) (hs : Small x.1 22) : ∃ os, OpsAt W v os ∧ (∀ n ∈ os, OLim n) ∧ os.length ≤ 140737488355328 := by
  rcases DataW.trod_slice Try.underlying22 h with ⟨hcs, rfl⟩ | ⟨a, len, cap, elems, rest, m, _, hcs, rfl, _, hl, hm, hlen, hel, _, _⟩
  · cases hcs
    exact ⟨[], .inl ⟨⟨_, _, rfl⟩, rfl⟩, fun n hn => (by cases hn), by simp⟩
  · cases hcs
    simp only at hs
    have hlb := small_len Try.underlying22 hs
    rw [bytes34, List.length_map, List.length_map] at hlb
    have each : ∀ i, i < len → ∃ n : Ov, W.cells? 0 (a.add (i * 5)) 5 = some [.int .i64 n.kind, .string (mk n.nm), .string (mk n.vl), .int .i64 n.flav, .int .i64 n.orig] ∧ OLim n := by
      intro i hi
      have hb := hel i hi
      rw [cells34, List.getElem?_eq_getElem (by omega), Option.bind_eq_some_iff] at hb
      obtain ⟨cs, hc, hy⟩ := hb
      obtain ⟨n, rfl, h2⟩ := op_of hy (small_elem Try.underlying22 hs (List.mem_map.2 ⟨_, List.getElem_mem _, rfl⟩))
      exact ⟨n, hc, h2⟩
    obtain ⟨os, hnl, hns⟩ := list_of len each
    have hlim : ∀ n ∈ os, OLim n := fun n hn => by
      obtain ⟨i, hi⟩ := List.getElem?_of_mem hn
      exact (hns i n hi).2
    refine ⟨os, ?_, hlim, by unfold reachBytes at hlb; omega⟩
    by_cases h0 : len = 0
    · subst h0
      obtain rfl : os = [] := List.length_eq_zero_iff.1 hnl
      exact .inl ⟨⟨_, _, rfl⟩, rfl⟩
    · have hcell : ∀ i n, os[i]? = some n → ∀ j, j < 5 → W.cell? ((a.add (i * 5)).add j) = ([.int .i64 n.kind, .string (mk n.nm), .string (mk n.vl), .int .i64 n.flav, .int .i64 n.orig] : List Value)[j]? := fun i n hi j hj => (World.cells?_some (hns i n hi).1).2.2 j hj
      obtain ⟨n0, hn0⟩ : ∃ n, os[0]? = some n := ⟨_, List.getElem?_eq_getElem (by omega)⟩
      obtain ⟨b, off, spot⟩ := a
      have hc0 := hcell 0 n0 hn0 0 (by omega)
      have hspot : spot = none := by simpa [Addr.add] using World.cell?_spot (show W.cell? _ = some (.int .i64 n0.kind) from hc0)
      subst hspot
      have hpl : ∀ i j, ((⟨b, off, none⟩ : Addr).add (i * 5)).add j = ⟨b, off + i * 5 + j, none⟩ := fun i j => by rw [Go.WideShapes.add_plain, Go.WideShapes.add_plain]
      have hblk : b < W.heap.size := by
        have := World.block_lt_of_cell? _ _ (show W.cell? _ = some (.int .i64 n0.kind) from hc0)
        rw [add_block, add_block] at this
        exact this
      refine .inr ⟨b, off, cap, by rw [hnl], by omega, ⟨fun _ => hblk, fun i n hi => ?_, fun i n hi => ?_, fun i n hi => ?_, fun i n hi => ?_, fun i n hi => ?_⟩⟩
      · have := hcell i n hi 0 (by omega); rw [hpl] at this; exact this
      · have := hcell i n hi 1 (by omega); rw [hpl] at this; exact this
      · have := hcell i n hi 2 (by omega); rw [hpl] at this; exact this
      · have := hcell i n hi 3 (by omega); rw [hpl] at this; exact this
      · have := hcell i n hi 4 (by omega); rw [hpl] at this; exact this
end
end Go.Proofs.Ytillechackcbpaa
