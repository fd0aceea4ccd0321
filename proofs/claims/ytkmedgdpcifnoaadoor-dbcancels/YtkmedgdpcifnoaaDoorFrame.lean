/- From the walks to the rows: what the listed variables give a walk, and one wrap for the law. -/
import Derived.Test.YtkmedgdpcifnoaaDoorRows
import Derived.Test.YtkmedgdpcifnoaaDoorDn
import Derived.ProofKit
import Derived.OpenShut
import Derived.LaidMore
import Derived.LaidHandle
import Derived.Lay
import Derived.Stop.Joined
import Derived.Stop.LaidErr
import Derived.SevenTiedAt
import Derived.Deep.Strs
namespace Go.Proofs.YtkmedgdpcifnoaaDoor
open Go.ChangeShapes Go.WideShapes Go.ChangeAt Go.WideMaps Go.WideElems Go.RowKit
open Go.ChangeMaps (open_string shut_string)

theorem own : ownKnob Tryd.prog.godebug = none := by kernel_rfl
/-- the list that the row of this seat bears -/
abbrev L4 : List (String × DataW Unit) := [("math/bits.deBruijn32tab", Rows.laid_math_bits_deBruijn32tab), ("math/bits.deBruijn64tab", Rows.laid_math_bits_deBruijn64tab), ("internal/strconv.uint64pow10", Rows.laid_internal_strconv_uint64pow10), ("anvil/db.builtin", Rows.laid_anvil_db_builtin)]
theorem gB : Tryd.prog.globalNamed "anvil/db.builtin" = some 0 := by kernel_rfl
theorem tB : (Tryd.prog.globals[0]?).map (·.type) = some 92 := by kernel_rfl
theorem t1 : (Tryd.prog.globals[1]?).map (·.type) = some 132 := by kernel_rfl
theorem pow_data : Rows.laid_internal_strconv_uint64pow10 (H := Unit) = Lib.tabData .u64 Lib.pow10Tab := by kernel_rfl
def datB (x : Bs × Bs × Bs) : DataW Unit := .agg [.lit (.string x.1), .lit (.string x.2.1), .lit (.string x.2.2)]
theorem blt_data : Rows.laid_anvil_db_builtin (H := Unit) = .agg (bltT.map datB) := by kernel_rfl
theorem cells91 : Tryd.prog.cellsOf 91 = 3 := by kernel_rfl
theorem cells125 : Tryd.prog.cellsOf 125 = 1 := by kernel_rfl
theorem cells132 : Tryd.prog.cellsOf 132 = 20 := by kernel_rfl
theorem at_of {l : List Value} {k j : Nat} {v : Value} (hj : j < 3) (h : (((l.drop (k * 3)).take 3).drop j).take 1 = [v]) : l[k * 3 + j]? = some v := by
  have := congrArg (·[0]?) h
  simp only [List.getElem?_take, List.getElem?_drop] at this
  rw [if_pos (by omega), if_pos (by omega)] at this
  simpa using this
theorem blt_len : bltT.length = 4 := rfl
theorem bltF_at (k : Nat) (hk : k < 4) : bltF.getD (k * 3) [] = (bltT.getD k ([], [], [])).1 ∧ bltF.getD (k * 3 + 1) [] = (bltT.getD k ([], [], [])).2.1 ∧ bltF.getD (k * 3 + 2) [] = (bltT.getD k ([], [], [])).2.2 := by
  rcases (show k = 0 ∨ k = 1 ∨ k = 2 ∨ k = 3 by omega) with rfl | rfl | rfl | rfl <;> exact ⟨rfl, rfl, rfl⟩
theorem blts_of {W : World} {rest : List (String × DataW Unit)} (h2 : laidMet Tryd.prog (("anvil/db.builtin", Rows.laid_anvil_db_builtin) :: rest) W) : ∀ i, i < 12 → W.cell? ⟨0, i, none⟩ = some (sV (bltF.getD i [])) := by
  obtain ⟨ps, ⟨g', t', cs, fuel, p, q, hg', ht', hvar, hd, _, _⟩, _⟩ := h2
  obtain rfl : 0 = g' := Option.some.inj (gB.symm.trans hg')
  obtain rfl : 92 = t' := Option.some.inj (tB.symm.trans ht')
  obtain ⟨xs, m, _, hx, hlen, hxl, hf⟩ := DataW.trod_array Tryd.underlying92 hd
  rw [cells91] at hf
  have hxs : xs.map (·.1) = bltT.map datB := by
    have := congrArg Prod.fst hx
    rw [blt_data] at this
    simpa using this.symm
  have key : ∀ k, k < 4 → cs.toList[k * 3]? = some (sV (bltT.getD k ([], [], [])).1) ∧ cs.toList[k * 3 + 1]? = some (sV (bltT.getD k ([], [], [])).2.1) ∧ cs.toList[k * 3 + 2]? = some (sV (bltT.getD k ([], [], [])).2.2) := fun k hk => by
    have hk2 := hf k hk
    have hkx : k < xs.length := by omega
    rw [List.getElem?_eq_getElem hkx] at hk2
    have hy : (xs[k]'hkx).1 = datB (bltT.getD k ([], [], [])) := by
      have h3 : (xs.map (·.1))[k]? = some (xs[k]'hkx).1 := by rw [List.getElem?_map, List.getElem?_eq_getElem hkx]; rfl
      rw [hxs, List.getElem?_map, List.getElem?_eq_getElem (by rw [blt_len]; exact hk)] at h3
      rw [List.getD_eq_getElem?_getD, List.getElem?_eq_getElem (by rw [blt_len]; exact hk)]
      exact (Option.some.inj h3).symm
    obtain ⟨y0, y1, y2, n, hyy, hl3, e0, e1, e2⟩ := Go.Deep.trod_struct3 Tryd.underlying91 hk2
    rw [hyy] at hy
    unfold datB at hy
    simp only [DataW.agg.injEq, List.cons.injEq, and_true] at hy
    obtain ⟨hy0, hy1, hy2⟩ := hy
    obtain ⟨s, hs, rfl, _⟩ := DataW.trod_string Tryd.underlying9 e0
    obtain ⟨a, ha, rfl, _⟩ := DataW.trod_string Tryd.underlying9 e1
    obtain ⟨b, hb, rfl, _⟩ := DataW.trod_string Tryd.underlying9 e2
    simp only [DataW.lit.injEq, Lit.string.injEq] at hy0 hy1 hy2
    have k0 : s = mk (bltT.getD k ([], [], [])).1 := by rw [← hy0]
    have k1 : a = mk (bltT.getD k ([], [], [])).2.1 := by rw [← hy1]
    have k2 : b = mk (bltT.getD k ([], [], [])).2.2 := by rw [← hy2]
    rw [cells9] at hs ha hb
    rw [k0] at hs
    rw [k1] at ha
    rw [k2] at hb
    exact ⟨at_of (j := 0) (by omega) hs, at_of (j := 1) (by omega) ha, at_of (j := 2) (by omega) hb⟩
  have cell : ∀ off, W.cell? ⟨0, off, none⟩ = cs.toList[off]? := fun off => by rw [World.var?_cell gB hvar off]; simp
  intro i hi
  rw [cell]
  have hk : i / 3 < 4 := by omega
  obtain ⟨a0, a1, a2⟩ := key (i / 3) hk
  obtain ⟨b0, b1, b2⟩ := bltF_at (i / 3) hk
  rcases (show i % 3 = 0 ∨ i % 3 = 1 ∨ i % 3 = 2 by omega) with h | h | h
  · have e : i = i / 3 * 3 := by omega
    rw [← e] at a0 b0
    rw [a0, b0]
  · have e : i = i / 3 * 3 + 1 := by omega
    rw [← e] at a1 b1
    rw [a1, b1]
  · have e : i = i / 3 * 3 + 2 := by omega
    rw [← e] at a2 b2
    rw [a2, b2]
theorem glo_of {W : World} (hL : laidMetH Tryd.prog L4 W) : Glo W := by
  rw [MakeChecks.laidMetH_plain _ _ _ (by kernel_rfl)] at hL
  have h2 := (laidMet.tail (laidMet.tail hL))
  have h3 := laidMet.tail h2
  rw [pow_data] at h2
  exact ⟨blts_of h3, Lib.tabIs_of_head gP t1 Tryd.underlying132 Tryd.underlying125 cells125 cells132 h2⟩

set_option maxRecDepth 100000 in
theorem wrap {H : Type} {enc : TypeId × Value → H} {os : Os} {f : FuncId} {fn : Func} {s : ChangeSpec} (started : os.Started) (noInit : Tryd.prog.inits.idxOf? f = none) (hfn : Tryd.prog.funcs[f]? = some fn)
    (witness : ∃ (w : World) (tape : Tape) (i : Input), w.os = os ∧ (w.forCall tape i).Shaped Tryd.prog ∧ i.vars = [] ∧ Input.okWide Tryd.prog (w.forCall tape i) .any w.heap.size f i ∧
      ((s.pre enc Tryd.prog fn [] false (w.forCall tape i).memory i.args ∧ laidMetH Tryd.prog L4 (w.forCall tape i).memory) ∧ sizedMet enc Tryd.prog fn (OpenSpec.ofChange s) false (w.forCall tape i).memory i.args) ∧ Assume.holds {} Tryd.prog (lone (Frame.enter Tryd.prog f i.args .normal) [] (w.forCall tape i)))
    (contract : ∀ (W : World) (base : Nat) (args : Array Value) (ds gs : List (DataW H)) (before : List MemPlace), (∀ (j : Nat) t v, fn.params[j]? = some t → args[j]? = some v → Value.okWide Tryd.prog W .any base t v) →
      DataW.Whole enc Tryd.prog fn.params.toList s.vars false W args.toList ds gs before → Glo W → Calls Tryd.prog f args W fun e W' => ∃ v, e = .returned v ∧ s.post enc Tryd.prog fn false true false false W args v W') :
    ReturnsInHanded {} Tryd.checked os f .any (fun w args => (s.pre enc Tryd.prog fn [] false w args ∧ laidMetH Tryd.prog L4 w) ∧ sizedMet enc Tryd.prog fn (OpenSpec.ofChange s) false w args) (s.post enc Tryd.prog fn false true false false) := by
  refine returnsInHanded_of_calls (C := Tryd.checked) own started noInit witness ?_
  intro w tape i _ _ _ hok hpre _
  obtain ⟨_, _, _, fn', hfn', _, _, _, _, hval⟩ := hok
  obtain rfl : fn' = fn := Option.some.inj (hfn'.symm.trans hfn)
  obtain ⟨⟨⟨ds, gs, before, hw, _⟩, hx⟩, _⟩ := hpre
  have hw' := DataW.Whole.of_heap (w' := w.forCall tape i) (by rfl) hw
  have hx' : laidMetH Tryd.prog L4 (w.forCall tape i) := hx.of_heap (by rfl)
  refine (contract (w.forCall tape i) w.heap.size i.args ds gs before hval hw' (glo_of hx')).mono fun e W' ⟨v, he, hp⟩ => ?_
  subst he
  exact ChangeSpec.post_blind hp
end Go.Proofs.YtkmedgdpcifnoaaDoor
