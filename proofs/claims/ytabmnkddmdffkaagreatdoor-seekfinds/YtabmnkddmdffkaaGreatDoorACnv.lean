import Derived.Test.YtabmnkddmdffkaaGreatDoorAMemG
import Derived.Test.YtabmnkddmdffkaaGreatDoorARepG
import Derived.Lib.SlBytesRow
import Derived.Lib.BufferRead
import Derived.Lib.ConvBytes
namespace Go.Proofs.YtabmnkddmdffkaaGreatDoor.Sk
open Go.RowKit Go.Maps
theorem nums_mk (bs : Bs) : strOfNums (bs.map fun x => (x.toNat : Int)) = mk bs := by
 apply ByteArray.ext
 apply Array.toList_inj.1
 rw [strOfNums_data, List.map_map]
 show _ = bs
 conv => rhs; rw [← List.map_id bs]
 apply List.map_congr_left
 intro x _
 simp
theorem rds_str {w : World} {v : Value} {bs : Bs} (h : Rds w v bs) : (convert 57 9 v).run Tryz.prog w = .ok (.string (mk bs)) w := by
 rcases h with ⟨rfl, rfl⟩ | ⟨a, cap, rfl, _, hc⟩
 ·exact Lib.run_convert_nil_bytes w 57 9 5 0 Tryz.underlying57 Tryz.underlying5 Tryz.underlying9
 ·have hx : Lib.byteCells bs = (bs.map fun x => (x.toNat : Int)).map (Value.int .u8) := by rw [List.map_map]; rfl
  have hl : (loadCells a bs.length).run Tryz.prog w = .ok ((bs.map fun x => (x.toNat : Int)).map (Value.int .u8)).toArray w := by
   have := run_loadCells_list (P := Tryz.prog) w a (Lib.byteCells bs) hc
   rw [Lib.byteCells_length, hx] at this
   exact this
  rw [run_convert_bytes_string w 57 9 5 _ bs.length cap Tryz.underlying57 Tryz.underlying5 Tryz.underlying9, run_bytesToString w _ bs.length cap _ hl, foldl_push_bytes, ← nums_mk]
  simp [strOfNums, ByteArray.empty, ByteArray.emptyWithCapacity]
  rfl
structure ByAt (W : World) (g : Nat) (l : Bs) : Prop where
 lt : g < W.heap.size
 cel : ∀ j, j < l.length → W.cell? ⟨g, j, none⟩ = some (.int .u8 (l.getD j 0).toNat)
 frz : ∀ j, j < l.length → W.frozen? ⟨g, j, none⟩ = false
theorem conv_by (w : World) (x : Bs) : (convert 9 57 (.string (mk x))).run Tryz.prog w = .ok (.slice (some ⟨w.heap.size, 0, none⟩) x.length (grownCap w x.length 0 5)) (Lib.bytesWorld w 5 (mk x)) ∧ Below w.heap.size w (Lib.bytesWorld w 5 (mk x)) ∧ ByAt (Lib.bytesWorld w 5 (mk x)) w.heap.size x := by
 have h1 := Lib.run_convert_string_bytes (P := Tryz.prog) w 9 57 5 (mk x) Tryz.underlying9 Tryz.underlying57 Tryz.underlying5
 rw [mk_size] at h1
 have h2 : Below w.heap.size w w.drew := below_drewn (B := w.heap.size) (w := w) 1
 refine ⟨h1, ⟨h2.os, h2.tape, h2.output, by rw [Lib.bytesWorld_size]; omega, fun j hj => Lib.bytesWorld_at_old w 5 (mk x) j hj⟩, by rw [Lib.bytesWorld_size]; omega, fun j hj => ?_, fun j hj => ?_⟩
 ·rw [Lib.bytesWorld_cell w 5 (mk x) j (by rw [mk_size]; exact hj)]
 ·have h3 := Lib.bytesWorld_at_new w 5 (mk x)
  have h4 : j < (Lib.bytesCells w 5 (mk x)).size := by
   unfold Lib.bytesCells
   rw [Array.size_append, Array.size_map]
   have : (mk x).data.size = x.length := by simp
   omega
  unfold World.frozen?
  rw [h3]
  simp
  omega
theorem ByAt.rds {W : World} {g n cap : Nat} {l : Bs} (h : ByAt W g l) (hn : n = l.length) : Rds W (.slice (some ⟨g, 0, none⟩) n cap) l := by
 subst hn
 refine .inr ⟨⟨g, 0, none⟩, cap, rfl, fun _ => h.lt, fun j u hj => ?_⟩
 have hlt : j < l.length := by have := (List.getElem?_eq_some_iff.1 hj).1; rwa [Lib.byteCells_length] at this
 rw [add_zero, h.cel j hlt, ← hj]
 unfold Lib.byteCells
 rw [List.getElem?_map, List.getElem?_eq_getElem hlt, List.getD_eq_getElem?_getD, List.getElem?_eq_getElem hlt]
 rfl
theorem ByAt.set {W : World} {g : Nat} {l : Bs} (h : ByAt W g l) (k : Nat) (hk : k < l.length) (c : UInt8) : ByAt (W.setCell ⟨g, k, none⟩ (.int .u8 c.toNat)) g (l.set k c) := by
 refine ⟨by simpa using h.lt, fun j hj => ?_, fun j hj => ?_⟩
 ·rw [List.length_set] at hj
  by_cases e : j = k
  ·subst e
   rw [World.cell?_setCell_same' _ _ _ (by rw [h.cel j hj]; rfl), List.getD_eq_getElem?_getD, List.getElem?_set_self hj]; rfl
  ·have hne : (⟨g, k, none⟩ : Addr) ≠ ⟨g, j, none⟩ := fun x => e (by cases x; rfl)
   rw [World.cell?_setCell_other _ _ _ _ hne, h.cel j hj, List.getD_eq_getElem?_getD, List.getD_eq_getElem?_getD, List.getElem?_set_ne (Ne.symm e)]
 ·rw [List.length_set] at hj
  rw [World.frozen?_setCell]
  exact h.frz j hj
def gone (x : Bs) (k : Nat) : Bs := cmap (x.take k) ++ x.drop k
theorem gone_len (x : Bs) (k : Nat) : (gone x k).length = x.length := by
 unfold gone
 rw [List.length_append, cmap_len, List.length_take, List.length_drop]; omega
theorem gone_at (x : Bs) (k : Nat) (hk : k < x.length) : (gone x k).getD k 0 = x[k] := by
 unfold gone
 have h1 : (cmap (x.take k)).length = k := by rw [cmap_len, List.length_take]; omega
 rw [List.getD_eq_getElem?_getD, List.getElem?_append_right (by omega), h1, Nat.sub_self, List.getElem?_drop, Nat.add_zero, List.getElem?_eq_getElem hk]; rfl
theorem cmap_append (a b : Bs) : cmap (a ++ b) = cmap a ++ cmap b := by simp [cmap]
theorem gone_succ (x : Bs) (k : Nat) (hk : k < x.length) : gone x (k + 1) = cmap (x.take k) ++ (if x[k] = 58 then 32 else x[k]) :: x.drop (k + 1) := by
 unfold gone
 rw [List.take_succ_eq_append_getElem hk, cmap_append, List.append_assoc]; rfl
theorem gone_no (x : Bs) (k : Nat) (hk : k < x.length) (h : x[k] ≠ 58) : gone x (k + 1) = gone x k := by
 rw [gone_succ x k hk, if_neg h]
 unfold gone
 rw [← List.drop_eq_getElem_cons hk]
theorem gone_yes (x : Bs) (k : Nat) (hk : k < x.length) (h : x[k] = 58) : gone x (k + 1) = (gone x k).set k 32 := by
 rw [gone_succ x k hk, if_pos h]
 unfold gone
 have h1 : (cmap (x.take k)).length = k := by rw [cmap_len, List.length_take]; omega
 rw [List.set_append_right _ _ (by omega), h1, Nat.sub_self, List.drop_eq_getElem_cons hk, List.set_cons_zero]
theorem gone_all (x : Bs) : gone x x.length = cmap x := by unfold gone; simp
theorem gone_none (x : Bs) : gone x 0 = x := by unfold gone; simp [cmap]
end Go.Proofs.YtabmnkddmdffkaaGreatDoor.Sk
