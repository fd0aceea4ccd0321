/- From the walks to the rows: what the listed variables give a walk, a start that meets the condition, and one wrap for every law of this seat. -/
import Derived.Test.YtaemmgllhmjceaaDoorRows
import Derived.Test.YtaemmgllhmjceaaDoorFn
import Derived.ProofKit
import Derived.OpenShut
import Derived.LaidMore
import Derived.LaidHandle
import Derived.Lay
import Derived.Stop.Joined
import Derived.Stop.LaidErr
import Derived.SevenTiedAt
import Derived.Deep.Strs
namespace Go.Proofs.YtaemmgllhmjceaaDoor
open Go.ChangeShapes Go.WideShapes Go.ChangeAt Go.WideMaps Go.WideElems Go.RowKit
open Go.ChangeMaps (open_string shut_string)

theorem own : ownKnob Tryd.prog.godebug = none := by kernel_rfl
/-- the list that each row of this seat bears -/
abbrev L3 : List (String × DataW Unit) := [("unicode/utf8.acceptRanges", Rows.laid_unicode_utf8_acceptRanges), ("anvil/refs.functions", Rows.laid_anvil_refs_functions), ("unicode/utf8.first", Rows.laid_unicode_utf8_first)]
theorem gFn : Tryd.prog.globalNamed "anvil/refs.functions" = some 0 := by kernel_rfl
theorem tFn : (Tryd.prog.globals[0]?).map (·.type) = some 59 := by kernel_rfl
theorem gFirst : Tryd.prog.globalNamed "unicode/utf8.first" = some 2 := by kernel_rfl
def datF (f : Fn) : DataW Unit := .agg [.lit (.string f.1), .lit (.int .i64 f.2.1), .lit (.int .i64 f.2.2)]
theorem fun_data : Rows.laid_anvil_refs_functions (H := Unit) = .agg (fnL.map datF) := by kernel_rfl
theorem cells58 : Tryd.prog.cellsOf 58 = 3 := by kernel_rfl
theorem cells59 : Tryd.prog.cellsOf 59 = 102 := by kernel_rfl
theorem cells9 : Tryd.prog.cellsOf 9 = 1 := by kernel_rfl
theorem cells3 : Tryd.prog.cellsOf 3 = 1 := by kernel_rfl
theorem at_of {l : List Value} {k j : Nat} {v : Value} (hj : j < 3) (h : (((l.drop (k * 3)).take 3).drop j).take 1 = [v]) : l[k * 3 + j]? = some v := by
  have := congrArg (·[0]?) h
  simp only [List.getElem?_take, List.getElem?_drop] at this
  rw [if_pos (by omega), if_pos (by omega)] at this
  simpa using this
theorem fns_of {W : World} (hL : laidMetH Tryd.prog L3 W) : FnsAt W 0 := by
  rw [MakeChecks.laidMetH_plain _ _ _ (by kernel_rfl)] at hL
  have h2 := laidMet.tail hL
  obtain ⟨ps, ⟨g', t', cs, fuel, p, q, hg', ht', hvar, hd, _, _⟩, _⟩ := h2
  obtain rfl : 0 = g' := Option.some.inj (gFn.symm.trans hg')
  obtain rfl : 59 = t' := Option.some.inj (tFn.symm.trans ht')
  obtain ⟨xs, m, _, hx, hlen, hxl, hf⟩ := DataW.trod_array Tryd.underlying59 hd
  rw [cells58] at hf
  have hxs : xs.map (·.1) = fnL.map datF := by
    have := congrArg Prod.fst hx
    rw [fun_data] at this
    simpa using this.symm
  have key : ∀ k, k < 34 → cs.toList[k * 3]? = some (.string (nmA k)) ∧ cs.toList[k * 3 + 1]? = some (.int .i64 (fnAt k).2.1) ∧ cs.toList[k * 3 + 2]? = some (.int .i64 (fnAt k).2.2) := fun k hk => by
    have hk2 := hf k hk
    have hkx : k < xs.length := by omega
    rw [List.getElem?_eq_getElem hkx] at hk2
    have hy : (xs[k]'hkx).1 = datF (fnAt k) := by
      have h3 : (xs.map (·.1))[k]? = some (xs[k]'hkx).1 := by rw [List.getElem?_map, List.getElem?_eq_getElem hkx]; rfl
      rw [hxs, List.getElem?_map, List.getElem?_eq_getElem (by rw [fn_len]; exact hk)] at h3
      unfold fnAt
      rw [List.getD_eq_getElem?_getD, List.getElem?_eq_getElem (by rw [fn_len]; exact hk)]
      exact (Option.some.inj h3).symm
    obtain ⟨y0, y1, y2, n, hyy, hl3, e0, e1, e2⟩ := Go.Deep.trod_struct3 Tryd.underlying58 hk2
    rw [hyy] at hy
    unfold datF at hy
    simp only [DataW.agg.injEq, List.cons.injEq, and_true] at hy
    obtain ⟨hy0, hy1, hy2⟩ := hy
    obtain ⟨s, hs, rfl, _⟩ := DataW.trod_string Tryd.underlying9 e0
    obtain ⟨a, ha, rfl, _⟩ := DataW.trod_int Tryd.underlying3 e1
    obtain ⟨b, hb, rfl, _⟩ := DataW.trod_int Tryd.underlying3 e2
    simp only [DataW.lit.injEq, Lit.string.injEq, Lit.int.injEq, true_and] at hy0 hy1 hy2
    have hsn : s = nmA k := tl_inj _ _ (by rw [tl_nm]; exact hy0)
    rw [cells9] at hs
    rw [cells3] at ha hb
    subst hsn hy1 hy2
    exact ⟨at_of (j := 0) (by omega) hs, at_of (j := 1) (by omega) ha, at_of (j := 2) (by omega) hb⟩
  have cell : ∀ off, W.cell? ⟨0, off, none⟩ = cs.toList[off]? := fun off => by rw [World.var?_cell gFn hvar off]; simp
  refine ⟨?_, fun k hk => by rw [cell]; exact (key k hk).1, fun k hk => by rw [cell]; exact (key k hk).2.1, fun k hk => by rw [cell]; exact (key k hk).2.2⟩
  have h0 : W.cell? ⟨0, 0, none⟩ = some (.string (nmA 0)) := by rw [cell]; exact (key 0 (by omega)).1
  exact World.block_lt_of_cell? _ _ h0
def firstTab : Array Value := match (Rows.laid_unicode_utf8_first : DataW Unit) with
  | .agg ds => (ds.map fun d => match d with | .lit (.int k z) => Value.int k z | _ => undef).toArray
  | _ => #[]
def putFirst (o : Obj) : Obj := match o with
  | .cells _ t f => .cells firstTab t f
  | o => o
set_option maxRecDepth 100000 in
theorem door_met (os : Os) (args : Array Value) : laidMetH Tryd.prog L3 (({ World.doorLaid Tryd.prog 600 os with heap := (World.doorLaid Tryd.prog 600 os).heap.modify 2 putFirst } : World).forCall (fun _ _ => 0) ⟨#[], args, []⟩).memory :=
  laidMetH_of_parts (laidMet_of_run' 8 (by kernel_rfl) (by kernel_rfl)) (by kernel_rfl)

set_option maxRecDepth 100000 in
theorem wrap {H : Type} {enc : TypeId × Value → H} {os : Os} {f : FuncId} {fn : Func} {s : ChangeSpec} (started : os.Started) (noInit : Tryd.prog.inits.idxOf? f = none) (hfn : Tryd.prog.funcs[f]? = some fn)
    (witness : ∃ (w : World) (tape : Tape) (i : Input), w.os = os ∧ (w.forCall tape i).Shaped Tryd.prog ∧ i.vars = [] ∧ Input.okWide Tryd.prog (w.forCall tape i) .any w.heap.size f i ∧
      ((s.pre enc Tryd.prog fn [] false (w.forCall tape i).memory i.args ∧ laidMetH Tryd.prog L3 (w.forCall tape i).memory) ∧ sizedMet enc Tryd.prog fn (OpenSpec.ofChange s) false (w.forCall tape i).memory i.args) ∧ Assume.holds {} Tryd.prog (lone (Frame.enter Tryd.prog f i.args .normal) [] (w.forCall tape i)))
    (contract : ∀ (W : World) (base : Nat) (args : Array Value) (ds gs : List (DataW H)) (before : List MemPlace), (∀ (j : Nat) t v, fn.params[j]? = some t → args[j]? = some v → Value.okWide Tryd.prog W .any base t v) →
      DataW.Whole enc Tryd.prog fn.params.toList s.vars false W args.toList ds gs before → FnsAt W 0 → Calls Tryd.prog f args W fun e W' => ∃ v, e = .returned v ∧ s.post enc Tryd.prog fn false true false false W args v W') :
    ReturnsInHanded {} Tryd.checked os f .any (fun w args => (s.pre enc Tryd.prog fn [] false w args ∧ laidMetH Tryd.prog L3 w) ∧ sizedMet enc Tryd.prog fn (OpenSpec.ofChange s) false w args) (s.post enc Tryd.prog fn false true false false) := by
  refine returnsInHanded_of_calls (C := Tryd.checked) own started noInit witness ?_
  intro w tape i _ _ _ hok hpre _
  obtain ⟨_, _, _, fn', hfn', _, _, _, _, hval⟩ := hok
  obtain rfl : fn' = fn := Option.some.inj (hfn'.symm.trans hfn)
  obtain ⟨⟨⟨ds, gs, before, hw, _⟩, hx⟩, _⟩ := hpre
  have hw' := DataW.Whole.of_heap (w' := w.forCall tape i) (by rfl) hw
  have hx' : laidMetH Tryd.prog L3 (w.forCall tape i) := hx.of_heap (by rfl)
  refine (contract (w.forCall tape i) w.heap.size i.args ds gs before hval hw' (fns_of hx')).mono fun e W' ⟨v, he, hp⟩ => ?_
  subst he
  exact ChangeSpec.post_blind hp
end Go.Proofs.YtaemmgllhmjceaaDoor
