/- From the walks to the rows, for a law over a list of texts: what a list that came in holds, and the wrap that keeps the reach. -/
import Derived.Test.YtnhheljgjemfoaaDoorFrame
import Derived.Test.YtnhheljgjemfoaaDoorLent
import Derived.SliceStrings
import Derived.SizedLaws
namespace Go.Proofs.YtnhheljgjemfoaaDoor
open Go.ChangeShapes Go.WideShapes Go.ChangeAt Go.WideMaps Go.WideElems Go.RowKit

theorem laidOut : laidOutB Tryd.prog = true := by kernel_rfl
theorem cells9 : Tryd.prog.cellsOf 9 = 1 := by kernel_rfl
theorem bytes9 : Tryd.prog.bytesOf 9 = 16 := by kernel_rfl
theorem weights_in {H : Type} {P : Program} {e : TypeId} (l : List (DataW H)) (d : DataW H) (hd : d ∈ l) (n : Nat) (hn : n ∈ d.weights P e) : n ∈ DataW.weightsAll P e l := by
  induction l with
  | nil => cases hd
  | cons d' r ih =>
    simp only [DataW.weightsAll, List.mem_append]
    rcases List.mem_cons.1 hd with rfl | h
    · exact Or.inl hn
    · exact Or.inr (ih h)

set_option maxRecDepth 100000 in
theorem wrapS {H : Type} {enc : TypeId × Value → H} {os : Os} {f : FuncId} {fn : Func} {s : ChangeSpec} (started : os.Started) (noInit : Tryd.prog.inits.idxOf? f = none) (hfn : Tryd.prog.funcs[f]? = some fn)
    (witness : ∃ (w : World) (tape : Tape) (i : Input), w.os = os ∧ (w.forCall tape i).Shaped Tryd.prog ∧ i.vars = [] ∧ Input.okWide Tryd.prog (w.forCall tape i) .any w.heap.size f i ∧
      ((s.pre enc Tryd.prog fn [] false (w.forCall tape i).memory i.args ∧ laidMetH Tryd.prog L5 (w.forCall tape i).memory) ∧ sizedMet enc Tryd.prog fn (OpenSpec.ofChange s) false (w.forCall tape i).memory i.args) ∧ Assume.holds {} Tryd.prog (lone (Frame.enter Tryd.prog f i.args .normal) [] (w.forCall tape i)))
    (contract : ∀ (W : World) (base : Nat) (args : Array Value) (ds gs : List (DataW H)) (before : List MemPlace), (∀ (j : Nat) t v, fn.params[j]? = some t → args[j]? = some v → Value.okWide Tryd.prog W .any base t v) →
      DataW.Whole enc Tryd.prog fn.params.toList s.vars false W args.toList ds gs before → (DataW.weightsEach Tryd.prog (fn.params.toList ++ s.plain.varTypes Tryd.prog) (ds ++ gs)).all (· ≤ reachBytes) = true → Env W →
      Calls Tryd.prog f args W fun e W' => ∃ v, e = .returned v ∧ s.post enc Tryd.prog fn false true false false W args v W') :
    ReturnsInHanded {} Tryd.checked os f .any (fun w args => (s.pre enc Tryd.prog fn [] false w args ∧ laidMetH Tryd.prog L5 w) ∧ sizedMet enc Tryd.prog fn (OpenSpec.ofChange s) false w args) (s.post enc Tryd.prog fn false true false false) := by
  refine returnsInHanded_of_calls (C := Tryd.checked) own started noInit witness ?_
  intro w tape i _ hsh _ hok hpre _
  obtain ⟨_, _, _, fn', hfn', _, _, _, _, hval⟩ := hok
  obtain rfl : fn' = fn := Option.some.inj (hfn'.symm.trans hfn)
  obtain ⟨⟨⟨ds, gs, before, hw, _⟩, hx⟩, hz⟩ := hpre
  have hw' := DataW.Whole.of_heap (w' := w.forCall tape i) (by rfl) hw
  have hx' : laidMetH Tryd.prog L5 (w.forCall tape i) := hx.of_heap (by rfl)
  refine (contract (w.forCall tape i) w.heap.size i.args ds gs before hval hw' (hz.weights hw) (env_of hx' (mx_of hsh))).mono fun e W' ⟨v, he, hp⟩ => ?_
  subst he
  exact ChangeSpec.post_blind hp

/-- a list of texts that came in: what it holds, and that the reach bounds it -/
theorem strz_of {H : Type} {enc : TypeId × Value → H} {W : World} {a0 : Option Addr} {len cap : Nat} {d : DataW H} {p : List MemPlace} (hlt : ∀ x ∈ p, x.block < W.heap.size)
    (h : DataW.Trod enc Tryd.prog W 0 (fun _ => true) true 22 (.slice a0 len cap) d p) (hsz : (DataW.weightsEach Tryd.prog [22] [d]).all (· ≤ reachBytes) = true) :
    ∃ L, Strz W (.slice a0 len cap) L ∧ L.length ≤ 140737488355328 ∧ ∀ j, (L.getD j ⟨#[]⟩).size ≤ 140737488355328 := by
  obtain ⟨fuel, hf⟩ := h
  rcases open_strings Tryd.underlying22 Tryd.underlying9 cells9 hf with ⟨hcs, hx⟩ | ⟨a, len', cap', ss, hcs, _, hl, hm, hz, hx, hcell, hws⟩
  · simp [Value.cells] at hcs
    obtain ⟨rfl, rfl, rfl⟩ := hcs
    exact ⟨[], .inr (.inl ⟨rfl, rfl⟩), by simp, fun j => by rw [List.getD_nil]; exact Nat.zero_le _⟩
  · simp [Value.cells] at hcs
    obtain ⟨rfl, rfl, rfl⟩ := hcs
    simp only [Prod.mk.injEq] at hx
    obtain ⟨rfl, rfl⟩ := hx
    simp only [if_true] at hz
    have hn := sized_slice hsz (j := 0) (t := 22) (e := 9) rfl rfl Tryd.underlying22
    rw [bytes9] at hn
    have hlen : (ss.take len).length = len := by rw [List.length_take]; omega
    have hel : ∀ x ∈ ss.take len, x.size ≤ 140737488355328 := fun x hx => by
      have hmem : (DataW.lit (.string x.data.toList) : DataW H) ∈ strs (ss.take len) := List.mem_map_of_mem hx
      have := of_decide_eq_true (List.all_eq_true.1 hsz x.data.toList.length (DataW.weights_mem_each (j := 0) (t := 22) rfl rfl _ (by
        simp only [DataW.weights, Tryd.underlying22, List.mem_cons, List.mem_append]
        exact Or.inr (Or.inl (weights_in _ _ hmem _ (by simp [DataW.weights]))))))
      rw [← Lib.size_eq] at this
      unfold reachBytes at this
      omega
    refine ⟨ss.take len, ?_, ?_, fun j => ?_⟩
    · by_cases h0 : len = 0
      · subst h0
        exact .inl ⟨by simp, a, cap, rfl⟩
      · obtain ⟨b, off, spot⟩ := a
        have hspot : spot = none := by simpa [Addr.add] using World.cell?_spot (hcell 0 (by omega))
        subst hspot
        refine .inr (.inr ⟨b, off, cap, by rw [hlen], by omega, hm, ?_, fun j hj => ?_⟩)
        · exact hlt (.cell b off) (by
            refine MemPlace.mem_row.2 ⟨0, by omega, ?_⟩
            simp)
        · rw [hlen] at hj
          have := hcell j (by omega)
          rw [Go.WideShapes.add_plain] at this
          rw [this]
          rw [List.getD_eq_getElem?_getD, List.getD_eq_getElem?_getD, List.getElem?_take_of_lt hj]
          rfl
    · rw [hlen]
      simp only [strs, List.length_map, reachBytes] at hn
      rw [hlen] at hn
      omega
    · rw [List.getD_eq_getElem?_getD]
      cases he : (ss.take len)[j]? with
      | none => exact Nat.zero_le _
      | some x => exact hel x (List.mem_of_getElem? he)
end Go.Proofs.YtnhheljgjemfoaaDoor
