import Derived.Test.YtabmnkddmdffkaaGreatDoorARStrG
import Derived.Lib.SlBytesRow
import Derived.Lib.BufferRead
namespace Go.Proofs.YtabmnkddmdffkaaGreatDoor.Arc
open Go.RowKit Go.Maps
theorem cell_old {W : World} {a : Addr} {v : Value} (o : Obj) (h : W.cell? a = some v) : (W.alloc o).cell? a = some v := (((Below.refl W.heap.size W).alloc (Nat.le_refl _) o).cell (p := a) (World.block_lt_of_cell? _ _ h)).trans h
theorem nums_mk (bs : Bs) : strOfNums (bs.map fun x => (x.toNat : Int)) = mk bs := by
 apply ByteArray.ext
 apply Array.toList_inj.1
 rw [strOfNums_data, List.map_map]
 show _ = bs
 conv => rhs; rw [← List.map_id bs]
 apply List.map_congr_left
 intro x _
 simp
theorem rds_str {w : World} {v : Value} {bs : Bs} (h : Rds w v bs) : (convert 57 9 v).run Tryz.prog w = .ok (.string (mk bs)) w := by
 rcases h with ⟨rfl, rfl⟩ | ⟨a, cap, rfl, _, hc⟩
 ·exact Lib.run_convert_nil_bytes w 57 9 5 0 Tryz.underlying57 Tryz.underlying5 Tryz.underlying9
 ·have hx : Lib.byteCells bs = (bs.map fun x => (x.toNat : Int)).map (Value.int .u8) := by rw [List.map_map]; rfl
  have hl : (loadCells a bs.length).run Tryz.prog w = .ok ((bs.map fun x => (x.toNat : Int)).map (Value.int .u8)).toArray w := by
   have := run_loadCells_list (P := Tryz.prog) w a (Lib.byteCells bs) hc
   rw [Lib.byteCells_length, hx] at this
   exact this
  rw [run_convert_bytes_string w 57 9 5 _ bs.length cap Tryz.underlying57 Tryz.underlying5 Tryz.underlying9, run_bytesToString w _ bs.length cap _ hl, foldl_push_bytes, ← nums_mk]
  simp [strOfNums, ByteArray.empty, ByteArray.emptyWithCapacity]
  rfl
end Go.Proofs.YtabmnkddmdffkaaGreatDoor.Arc
