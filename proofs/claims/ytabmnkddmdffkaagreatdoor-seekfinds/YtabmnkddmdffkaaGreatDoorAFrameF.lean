import Derived.Test.YtabmnkddmdffkaaGreatDoorAFrame
import Derived.Test.YtabmnkddmdffkaaGreatDoorAMdtG
import Derived.LaidMore
import Derived.Stop.LaidErr
namespace Go.Proofs.YtabmnkddmdffkaaGreatDoor
open Go.ChangeShapes Go.WideShapes Go.ChangeAt Go.WideMaps Go.WideElems Go.RowKit
theorem tW : (Tryz.prog.globals[3]?).map (·.type) = some 236 := by kernel_rfl
theorem tP : (Tryz.prog.globals[9]?).map (·.type) = some 287 := by kernel_rfl
theorem gS : Tryz.prog.globalNamed "strconv.ErrSyntax" = some 7 := by kernel_rfl
theorem tS : (Tryz.prog.globals[7]?).map (·.type) = some 62 := by kernel_rfl
theorem pow_data : Rows.laid_internal_strconv_uint64pow10 (H := Unit) = Lib.tabData .u64 Lib.pow10Tab := by kernel_rfl
theorem wid_data : Rows.laid_anvil_ar_widths (H := Unit) = Lib.tabData .i64 Arc.wids := by kernel_rfl
theorem cellsT3 : Tryz.prog.cellsOf 3 = 1 := by kernel_rfl
theorem cells236 : Tryz.prog.cellsOf 236 = 6 := by kernel_rfl
theorem cells287 : Tryz.prog.cellsOf 287 = 20 := by kernel_rfl
theorem cellsU : Tryz.prog.cellsOf 207 = 1 := by kernel_rfl
set_option maxRecDepth 100000 in
theorem arw_of {W : World} (h : laidMetH Tryz.prog L10 W) (hs : W.ShapedOpen Tryz.prog) : ∃ Ea E, Sk.Gl 10 W Ea E ∧ 10 ≤ W.heap.size ∧ Sk.Arw W := by
 obtain ⟨Ea, E, hG, _⟩ := gl_of h hs
 have h' : laidMet Tryz.prog Ld W ∧ handlesMet Tryz.prog Lh W := h
 have h2 := laidMet.tail (laidMet.tail h'.1)
 have h5 := laidMet.tail (laidMet.tail (laidMet.tail h2))
 have h6 := laidMet.tail h5
 obtain ⟨a, s, hv, hc, _, _⟩ := laid_sentinel h5 gS tS Tryz.underlying62 row289 Tryz.underlying289 Tryz.underlying291 rfl rfl Tryz.underlying9 (by kernel_rfl) (by kernel_rfl)
 rw [pow_data] at h2
 rw [wid_data] at h6
 have hE : Arc.Env W := ⟨Lib.tabIs_of_head Arc.gW tW Tryz.underlying236 Tryz.underlying3 cellsT3 cells236 h6, Lib.tabIs_of_head Arc.gP tP Tryz.underlying287 Tryz.underlying207 cellsU cells287 h2⟩
 have hc9 := World.block_lt_of_cell? _ _ (hE.tab.cell Arc.gP 0 (by decide))
 have hS : W.cell? ⟨7, 0, none⟩ = some (.iface 289 (.pointer (some a))) := by simpa using World.var?_cell gS hv 0
 have hc10 : 10 ≤ W.heap.size := hc9
 exact ⟨Ea, E, ⟨hG.ca, ⟨hG.glo.1, hG.glo.2, by omega⟩, hG.mx, by omega⟩, hc10, ⟨hE, ⟨_, hS, .inr ⟨_, _, rfl⟩⟩, hG.mx⟩⟩
end Go.Proofs.YtabmnkddmdffkaaGreatDoor
