/- What the rows say of the two variables that Parse reads besides: strconv.ErrSyntax and the library's MaxLen; bytes that were handed in. -/
import Derived.Test.YtcijjigafcpcpaaGreatDoorNm
import Derived.Test.YtcijjigafcpcpaaGreatDoorOpens
import Derived.LaidLaws
namespace Go.Proofs.YtcijjigafcpcpaaGreatDoor
open Go.ChangeShapes Go.WideShapes Go.ChangeAt Go.WideMaps Go.WideElems Go.RowKit

theorem gS : Tryz.prog.globalNamed "strconv.ErrSyntax" = some 3 := by kernel_rfl
theorem tS : (Tryz.prog.globals[3]?).map (·.type) = some 48 := by kernel_rfl
theorem cells159 : Tryz.prog.cellsOf 159 = 1 := by kernel_rfl
theorem star : "*" ++ "errors.errorString" = "*errors.errorString" := by decide
theorem row157 (u : TypeId) (h : Tryz.prog.typeName? 3 u = some "*errors.errorString") : u = 157 :=
  typeName_ptr_named (nm := "errors.errorString") (by rw [star]; kernel_rfl) (by kernel_rfl) (by decide) u (by rw [star]; exact h)
set_option maxRecDepth 100000 in
theorem evs_of {W : World} (hL : laidMetH Tryz.prog L8 W) : EvS W ∧ 3 < W.heap.size := by
  rw [MakeChecks.laidMetH_plain _ _ _ (by kernel_rfl)] at hL
  have h5 := laidMet.tail (laidMet.tail (laidMet.tail (laidMet.tail (laidMet.tail hL))))
  obtain ⟨a, s, hv, _, _, _⟩ := laid_sentinel h5 gS tS Tryz.underlying48 row157 Tryz.underlying157 Tryz.underlying159 rfl rfl Tryz.underlying9 cells159 cells9
  have hc : W.cell? ⟨3, 0, none⟩ = some (.iface 157 (.pointer (some a))) := by simpa using World.var?_cell gS hv 0
  exact ⟨⟨_, hc, .inr ⟨_, _, rfl⟩⟩, World.block_lt_of_cell? _ _ hc⟩
theorem mx_of {W : World} (h : W.ShapedOpen Tryz.prog) : Mx W := Tryz.laysM185.s1_3 W h
section
variable {H : Type} {enc : TypeId × Value → H} {W : World} {held : Bool}
theorem tbs_of {v : Value} {fuel : Nat} {x : DataW H × List MemPlace} (h : DataW.trod enc Tryz.prog W 0 (fun _ => true) held fuel 26 [v] = some x) (hs : Small x.1 26) : ∃ bs, Tbs W v bs := by
  obtain ⟨bs, hr, _⟩ := rds_of h hs
  refine ⟨bs, ?_⟩
  rcases open_ints Tryz.underlying26 Tryz.underlying5 cells5 h with ⟨hcs, rfl⟩ | ⟨a, len, cap, zs, hcs, _, hl, hm, hz, rfl, hcell, hwf⟩
  · cases hcs
    rcases hr with ⟨_, e⟩ | ⟨a, c, e, _⟩
    · exact .inl ⟨rfl, e⟩
    · cases e
  · cases hcs
    obtain ⟨a', c', e⟩ := hr.len
    have e1 : len = bs.length := by cases e; rfl
    exact .inr ⟨a, len, cap, rfl, e1, by omega, hr⟩
end
set_option maxRecDepth 100000 in
theorem wrapT {H : Type} {enc : TypeId × Value → H} {os : Os} {f : FuncId} {fn : Func} {s : ChangeSpec} (started : os.Started) (noInit : Tryz.prog.inits.idxOf? f = none) (hfn : Tryz.prog.funcs[f]? = some fn)
    (witness : ∃ (w : World) (tape : Tape) (i : Input), w.os = os ∧ (w.forCall tape i).Shaped Tryz.prog ∧ i.vars = [] ∧ Input.okWide Tryz.prog (w.forCall tape i) .any w.heap.size f i ∧
      ((s.pre enc Tryz.prog fn [] false (w.forCall tape i).memory i.args ∧ laidMetH Tryz.prog L8 (w.forCall tape i).memory) ∧ sizedMet enc Tryz.prog fn (OpenSpec.ofChange s) false (w.forCall tape i).memory i.args) ∧ Assume.holds {} Tryz.prog (lone (Frame.enter Tryz.prog f i.args .normal) [] (w.forCall tape i)))
    (contract : ∀ (W : World) (base : Nat) (args : Array Value) (ds gs : List (DataW H)) (before : List MemPlace), (∀ (j : Nat) t v, fn.params[j]? = some t → args[j]? = some v → Value.okWide Tryz.prog W .any base t v) →
      DataW.Whole enc Tryz.prog fn.params.toList s.vars false W args.toList ds gs before → (DataW.weightsEach Tryz.prog (fn.params.toList ++ s.plain.varTypes Tryz.prog) (ds ++ gs)).all (· ≤ reachBytes) = true → (Env W ∧ EvS W ∧ Mx W ∧ 3 < W.heap.size) → Calls Tryz.prog f args W fun e W' => ∃ v, e = .returned v ∧ s.post enc Tryz.prog fn false true false false W args v W') :
    ReturnsInHanded {} Tryz.checked os f .any (fun w args => (s.pre enc Tryz.prog fn [] false w args ∧ laidMetH Tryz.prog L8 w) ∧ sizedMet enc Tryz.prog fn (OpenSpec.ofChange s) false w args) (s.post enc Tryz.prog fn false true false false) := by
  refine returnsInHanded_of_calls (C := Tryz.checked) own started noInit witness ?_
  intro w tape i _ hsh _ hok hpre _
  obtain ⟨_, _, _, fn', hfn', _, _, _, _, hval⟩ := hok
  obtain rfl : fn' = fn := Option.some.inj (hfn'.symm.trans hfn)
  obtain ⟨⟨⟨ds, gs, before, hw, _⟩, hx⟩, hz⟩ := hpre
  have hw' := DataW.Whole.of_heap (w' := w.forCall tape i) (by rfl) hw
  have hx' : laidMetH Tryz.prog L8 (w.forCall tape i) := hx.of_heap (by rfl)
  refine (contract (w.forCall tape i) w.heap.size i.args ds gs before hval hw' (hz.weights hw) ⟨(env_of hx').1, (evs_of hx').1, mx_of hsh, (evs_of hx').2⟩).mono fun e W' ⟨v, he, hp⟩ => ?_
  subst he
  exact ChangeSpec.post_blind hp
end Go.Proofs.YtcijjigafcpcpaaGreatDoor
