/- What the rows say of the variables that package ar reads; a list of numbers that was handed in. -/
import Derived.Test.YtbfchadcpokjoaaGreatDoorAOpens
import Derived.Test.YtbfchadcpokjoaaGreatDoorAXd
import Derived.ProofKit
import Derived.OpenShut
import Derived.LaidMore
import Derived.LaidHandle
import Derived.Lay
import Derived.Stop.Joined
import Derived.Stop.LaidErr
namespace Go.Proofs.YtbfchadcpokjoaaGreatDoor
open Go.ChangeShapes Go.WideShapes Go.ChangeAt Go.WideMaps Go.WideElems Go.RowKit

theorem gSy : Tryz.prog.globalNamed "strconv.ErrSyntax" = some 9 := by kernel_rfl
theorem tSy : (Tryz.prog.globals[9]?).map (·.type) = some 55 := by kernel_rfl
theorem tWi : (Tryz.prog.globals[5]?).map (·.type) = some 266 := by kernel_rfl
theorem tPo : (Tryz.prog.globals[6]?).map (·.type) = some 268 := by kernel_rfl
theorem pow_data : Rows.laid_internal_strconv_uint64pow10 (H := Unit) = Lib.tabData .u64 Lib.pow10Tab := by kernel_rfl
theorem wid_data : Rows.laid_anvil_ar_widths (H := Unit) = Lib.tabData .i64 Arc.wids := by kernel_rfl
theorem cells3' : Tryz.prog.cellsOf 3 = 1 := by kernel_rfl
theorem bytes3' : Tryz.prog.bytesOf 3 = 8 := by kernel_rfl
set_option maxRecDepth 100000 in
theorem aenv_of {W : World} (hsh : W.ShapedOpen Tryz.prog) (h : laidMetH Tryz.prog L10 W) : AEnv W := by
  have h' : laidMet Tryz.prog Ld W ∧ handlesMet Tryz.prog Lh W := h
  have h2 := laidMet.tail (laidMet.tail h'.1)
  have h5 := laidMet.tail (laidMet.tail (laidMet.tail h2))
  have h6 := laidMet.tail h5
  obtain ⟨a, s, hv, _, _, _⟩ := laid_sentinel h5 gSy tSy Tryz.underlying55 row292 Tryz.underlying292 Tryz.underlying294 rfl rfl Tryz.underlying9 (by kernel_rfl) (by kernel_rfl)
  have hc : W.cell? ⟨9, 0, none⟩ = some (.iface 292 (.pointer (some a))) := by simpa using World.var?_cell gSy hv 0
  rw [pow_data] at h2
  rw [wid_data] at h6
  exact ⟨⟨Lib.tabIs_of_head Arc.gW tWi Tryz.underlying266 Tryz.underlying3 cells3' (by kernel_rfl) h6, Lib.tabIs_of_head Arc.gP tPo Tryz.underlying268 Tryz.underlying200 (by kernel_rfl) (by kernel_rfl) h2⟩, ⟨_, hc, .inr ⟨_, _, rfl⟩⟩,
    Go.Proofs.cell_of_shapedOpen_int (zero := #[.int .i64 0]) (t := 3) hsh (of_decide_eq_true (by kernel_rfl)) (by kernel_rfl) rfl (by kernel_rfl) (by kernel_rfl) Tryz.underlying3, World.block_lt_of_cell? _ _ hc⟩
section
variable {H : Type} {enc : TypeId × Value → H} {W : World} {held : Bool}
theorem nis_of {v : Value} {fuel : Nat} {x : DataW H × List MemPlace} (h : DataW.trod enc Tryz.prog W 0 (fun _ => true) held fuel 47 [v] = some x) (hs : Small x.1 47) : ∃ L, Nis W v L ∧ L.length ≤ 140737488355328 := by
  rcases open_ints Tryz.underlying47 Tryz.underlying3 cells3' h with ⟨hcs, rfl⟩ | ⟨a, len, cap, zs, hcs, _, hl, hm, hz, rfl, hcell, hwf⟩
  · cases hcs
    exact ⟨[], .inl ⟨_, _, rfl, rfl⟩, by simp⟩
  · cases hcs
    simp only [if_true] at hz
    have hlen : (zs.take len).length = len := by rw [List.length_take]; omega
    have hR : len ≤ reachBytes := by
      have := small_len Tryz.underlying47 hs
      rw [bytes3'] at this
      simp only [lits, List.length_map, List.length_take, List.length_drop] at this
      omega
    refine ⟨zs.take len, ?_, by rw [hlen]; unfold reachBytes at hR; omega⟩
    by_cases h0 : len = 0
    · subst h0; exact .inl ⟨_, _, rfl, by simp⟩
    · refine .inr ⟨a, cap, by rw [hlen], ?_, fun i u hi => ?_⟩
      · have := World.block_lt_of_cell? _ _ (hcell 0 (by omega))
        rwa [add_block] at this
      · have hil : i < len := by
          have := (List.getElem?_eq_some_iff.1 hi).1
          rw [hlen] at this; exact this
        rw [hcell i (by omega)]
        rw [List.getElem?_take_of_lt hil, List.getElem?_eq_getElem (by omega)] at hi
        rw [List.getD_eq_getElem?_getD, List.getElem?_eq_getElem (by omega)]
        cases hi; rfl
end
end Go.Proofs.YtbfchadcpokjoaaGreatDoor
