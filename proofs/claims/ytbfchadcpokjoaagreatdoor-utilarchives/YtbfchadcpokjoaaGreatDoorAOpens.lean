/- Bytes as they are handed in: from the reading to what a walk wants. -/
import Derived.Test.YtbfchadcpokjoaaGreatDoorAFrame
import Derived.Test.YtbfchadcpokjoaaGreatDoorAZp
import Derived.SizedLaws
import Derived.ChangeSlices
import Derived.Lib.SmallJoins
import Derived.Deep.Strs
namespace Go.Proofs.YtbfchadcpokjoaaGreatDoor
open Go.ChangeShapes Go.WideShapes Go.ChangeAt Go.WideMaps Go.WideElems Go.RowKit

theorem laidOut : laidOutB Tryz.prog = true := by kernel_rfl
theorem cells5 : Tryz.prog.cellsOf 5 = 1 := by kernel_rfl
theorem bytes5 : Tryz.prog.bytesOf 5 = 1 := by kernel_rfl
section
variable {H : Type} {enc : TypeId × Value → H} {W : World} {held : Bool}
def Small (d : DataW H) (t : TypeId) : Prop := ∀ m ∈ d.weights Tryz.prog t, m ≤ reachBytes
theorem small_len {t e : TypeId} {es sp : List (DataW H)} (hu : Tryz.prog.underlying t = some (.slice e)) (h : Small (.slice es sp) t) : (es.length + sp.length) * Tryz.prog.bytesOf e ≤ reachBytes := h _ (by simp [DataW.weights, hu])
theorem rds_of {v : Value} {fuel : Nat} {x : DataW H × List MemPlace} (h : DataW.trod enc Tryz.prog W 0 (fun _ => true) held fuel 33 [v] = some x) (hs : Small x.1 33) : ∃ bs, Rds W v bs ∧ bs.length ≤ 140737488355328 := by
  rcases open_ints Tryz.underlying33 Tryz.underlying5 cells5 h with ⟨hcs, rfl⟩ | ⟨a, len, cap, zs, hcs, _, hl, hm, hz, rfl, hcell, hwf⟩
  · cases hcs
    exact ⟨[], .inl ⟨rfl, rfl⟩, by simp⟩
  · cases hcs
    simp only [if_true] at hz
    have hlen : ((zs.take len).map fun z => UInt8.ofNat z.toNat).length = len := by rw [List.length_map, List.length_take]; omega
    have hR : len ≤ reachBytes := by
      have := small_len Tryz.underlying33 hs
      rw [bytes5] at this
      simp only [lits, List.length_map, List.length_take, List.length_drop] at this
      omega
    refine ⟨(zs.take len).map fun z => UInt8.ofNat z.toNat, .inr ⟨a, cap, by rw [hlen], fun hne => ?_, fun j u hj => ?_⟩, by rw [hlen]; unfold reachBytes at hR; omega⟩
    · have : 0 < len := by
        have := List.length_pos_iff.2 hne
        omega
      have := World.block_lt_of_cell? _ _ (hcell 0 (by omega))
      rwa [add_block] at this
    · have hjl : j < len := by
        have := (List.getElem?_eq_some_iff.1 hj).1
        rw [Lib.byteCells_length, hlen] at this
        exact this
      have hc := hcell j (by omega)
      rw [hc]
      have hzj : zs.getD j 0 = zs[j]'(by omega) := by rw [List.getD_eq_getElem?_getD, List.getElem?_eq_getElem (by omega)]; rfl
      have hb := bounds_u8 (hwf (zs[j]'(by omega)) (List.getElem_mem _))
      have hj' : (Lib.byteCells ((zs.take len).map fun z => UInt8.ofNat z.toNat))[j]? = some (.int .u8 (zs[j]'(by omega))) := by
        unfold Lib.byteCells
        rw [List.getElem?_map, List.getElem?_map, List.getElem?_take_of_lt hjl, List.getElem?_eq_getElem (by omega)]
        simp only [Option.map_some, Option.some.injEq, Value.int.injEq, true_and]
        rw [UInt8.toNat_ofNat']
        omega
      rw [hj] at hj'
      rw [hzj]
      exact hj'.symm
end
end Go.Proofs.YtbfchadcpokjoaaGreatDoor
