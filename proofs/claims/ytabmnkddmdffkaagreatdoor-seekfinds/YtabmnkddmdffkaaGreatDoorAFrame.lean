import Derived.Test.YtabmnkddmdffkaaGreatDoorADoor
import Derived.Test.YtabmnkddmdffkaaGreatDoorAChgG
import Derived.Carry
import Derived.LaidLaws
namespace Go.Proofs.YtabmnkddmdffkaaGreatDoor
open Go.ChangeShapes Go.WideShapes Go.ChangeAt Go.WideMaps Go.WideElems Go.RowKit
open Go.ChangeMaps (open_string shut_string)
theorem own : ownKnob Tryz.prog.godebug = none := by kernel_rfl
abbrev Ld : List (String × DataW Unit) := [("math/bits.deBruijn32tab", Rows.laid_math_bits_deBruijn32tab), ("math/bits.deBruijn64tab", Rows.laid_math_bits_deBruijn64tab), ("internal/strconv.uint64pow10", Rows.laid_internal_strconv_uint64pow10), ("unicode/utf8.acceptRanges", Rows.laid_unicode_utf8_acceptRanges), ("strconv.ErrRange", Rows.laid_strconv_ErrRange), ("strconv.ErrSyntax", Rows.laid_strconv_ErrSyntax), ("anvil/ar.widths", Rows.laid_anvil_ar_widths), ("anvil/vfs.errNothing", Rows.laid_anvil_vfs_errNothing), ("anvil/seek.errAbsent", Rows.laid_anvil_seek_errAbsent), ("unicode/utf8.first", Rows.laid_unicode_utf8_first)]
abbrev Lh : List (String × DataW Unit) := [("errors.errorType", Rows.laid_errors_errorType)]
theorem gT : Tryz.prog.globalNamed "errors.errorType" = some 2 := by kernel_rfl
theorem gN : Tryz.prog.globalNamed "anvil/vfs.errNothing" = some 1 := by kernel_rfl
theorem gA : Tryz.prog.globalNamed "anvil/seek.errAbsent" = some 0 := by kernel_rfl
theorem tN : (Tryz.prog.globals[1]?).map (·.type) = some 62 := by kernel_rfl
theorem tA : (Tryz.prog.globals[0]?).map (·.type) = some 62 := by kernel_rfl
theorem rtT : (Tryz.prog.cutTypes.find? (·.1 == "internal/reflectlite.rtype")).map (·.2) = some 146 := by kernel_rfl
theorem oneRow : ((List.range Tryz.prog.types.size).filter fun t => Tryz.prog.rowNamed t [101, 114, 114, 111, 114]) = [62] := by kernel_rfl
theorem star : "*" ++ "errors.errorString" = "*errors.errorString" := by decide
theorem row289 (u : TypeId) (h : Tryz.prog.typeName? 3 u = some "*errors.errorString") : u = 289 :=
 typeName_ptr_named (nm := "errors.errorString") (by rw [star]; kernel_rfl) (by kernel_rfl) (by decide) u (by rw [star]; exact h)
theorem handle_of {W : World} (h : handlesMet Tryz.prog Lh W) : W.cell? ⟨2, 0, none⟩ = some (.iface 146 (.agg #[.pointer (some ⟨12, 62, none⟩)])) := by
 obtain ⟨name, u, ty, e1, e2, e3, e4, e5⟩ := h _ (List.mem_singleton.2 rfl)
 have en : name = [101, 114, 114, 111, 114] := (Option.some.inj e1).symm
 subst en
 obtain rfl := Option.some.inj (rtT.symm.trans e2)
 have hm : ty ∈ (List.range Tryz.prog.types.size).filter fun t => Tryz.prog.rowNamed t [101, 114, 114, 111, 114] := List.mem_filter.2 ⟨List.mem_range.2 e3, e4⟩
 rw [oneRow] at hm
 obtain rfl := List.mem_singleton.1 hm
 have hh : typeHandle Tryz.prog 62 = .pointer (some ⟨12, 62, none⟩) := by kernel_rfl
 rw [hh] at e5
 simpa using World.var?_cell gT e5 0
set_option maxRecDepth 100000 in
theorem gl_of {W : World} (h : laidMetH Tryz.prog L10 W) (hs : W.ShapedOpen Tryz.prog) : ∃ Ea E, Sk.Gl 5 W Ea E ∧ 5 ≤ W.heap.size := by
 have h' : laidMet Tryz.prog Ld W ∧ handlesMet Tryz.prog Lh W := h
 have h7 := laidMet.tail (laidMet.tail (laidMet.tail (laidMet.tail (laidMet.tail (laidMet.tail (laidMet.tail h'.1))))))
 obtain ⟨a, s, hv, hc, _, _⟩ := laid_sentinel h7 gN tN Tryz.underlying62 row289 Tryz.underlying289 Tryz.underlying291 rfl rfl Tryz.underlying9 (by kernel_rfl) (by kernel_rfl)
 obtain ⟨a2, s2, hv2, hc2, _, _⟩ := laid_sentinel (laidMet.tail h7) gA tA Tryz.underlying62 row289 Tryz.underlying289 Tryz.underlying291 rfl rfl Tryz.underlying9 (by kernel_rfl) (by kernel_rfl)
 have h1 := handle_of h'.2
 have hm : ∃ m, W.cell? ⟨4, 0, none⟩ = some (.int .i64 m) := Go.Proofs.cell_of_shapedOpen_int (zero := #[.int .i64 0]) (t := 3) hs (of_decide_eq_true (by kernel_rfl)) (by kernel_rfl) rfl (by kernel_rfl) (by kernel_rfl) Tryz.underlying3
 obtain ⟨m, hm⟩ := hm
 have h4 : 4 < W.heap.size := World.block_lt_of_cell? _ _ hm
 exact ⟨a2, a, ⟨by simpa using World.var?_cell gA hv2 0, ⟨by simpa using World.var?_cell gN hv 0, h1, by omega⟩, ⟨m, hm⟩, by omega⟩, by omega⟩
set_option maxRecDepth 100000 in
theorem wrap {H : Type} {enc : TypeId × Value → H} {os : Os} {f : FuncId} {fn : Func} {s : ChangeSpec} (started : os.Started) (noInit : Tryz.prog.inits.idxOf? f = none) (hfn : Tryz.prog.funcs[f]? = some fn)
  (witness : ∃ (w : World) (tape : Tape) (i : Input), w.os = os ∧ (w.forCall tape i).Shaped Tryz.prog ∧ i.vars = [] ∧ Input.okWide Tryz.prog (w.forCall tape i) .any w.heap.size f i ∧
   ((s.pre enc Tryz.prog fn [] false (w.forCall tape i).memory i.args ∧ laidMetH Tryz.prog L10 (w.forCall tape i).memory) ∧ sizedMet enc Tryz.prog fn (OpenSpec.ofChange s) false (w.forCall tape i).memory i.args) ∧ Assume.holds {} Tryz.prog (lone (Frame.enter Tryz.prog f i.args .normal) [] (w.forCall tape i)))
  (contract : ∀ (W : World) (base : Nat) (args : Array Value) (ds gs : List (DataW H)) (before : List MemPlace), (∀ (j : Nat) t v, fn.params[j]? = some t → args[j]? = some v → Value.okWide Tryz.prog W .any base t v) →
   DataW.Whole enc Tryz.prog fn.params.toList s.vars false W args.toList ds gs before → (DataW.weightsEach Tryz.prog (fn.params.toList ++ s.plain.varTypes Tryz.prog) (ds ++ gs)).all (· ≤ reachBytes) = true → W.ShapedOpen Tryz.prog → laidMetH Tryz.prog L10 W → (∃ Ea E, Sk.Gl 5 W Ea E ∧ 5 ≤ W.heap.size) → Calls Tryz.prog f args W fun e W' => ∃ v, e = .returned v ∧ s.post enc Tryz.prog fn false true false false W args v W') :
  ReturnsInHanded {} Tryz.checked os f .any (fun w args => (s.pre enc Tryz.prog fn [] false w args ∧ laidMetH Tryz.prog L10 w) ∧ sizedMet enc Tryz.prog fn (OpenSpec.ofChange s) false w args) (s.post enc Tryz.prog fn false true false false) := by
 refine returnsInHanded_of_calls (C := Tryz.checked) own started noInit witness ?_
 intro w tape i _ hsh _ hok hpre _
 obtain ⟨_, _, _, fn', hfn', _, _, _, _, hval⟩ := hok
 obtain rfl : fn' = fn := Option.some.inj (hfn'.symm.trans hfn)
 obtain ⟨⟨⟨ds, gs, before, hw, _⟩, hx⟩, hz⟩ := hpre
 have hw' := DataW.Whole.of_heap (w' := w.forCall tape i) (by rfl) hw
 have hx' : laidMetH Tryz.prog L10 (w.forCall tape i) := hx.of_heap (by rfl)
 refine (contract (w.forCall tape i) w.heap.size i.args ds gs before hval hw' (hz.weights hw) hsh hx' (gl_of hx' hsh)).mono fun e W' ⟨v, he, hp⟩ => ?_
 subst he
 exact ChangeSpec.post_blind hp
end Go.Proofs.YtabmnkddmdffkaaGreatDoor
