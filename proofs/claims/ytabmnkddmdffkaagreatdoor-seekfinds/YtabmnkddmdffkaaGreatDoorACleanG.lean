import Derived.Test.YtabmnkddmdffkaaGreatDoorAShelf
import Derived.Test.YtabmnkddmdffkaaGreatDoorAWordG
import Derived.Shelf.RegionOpen
import Derived.Lib.OthersKept
import Derived.Laws.RangeAny
namespace Go.Proofs.YtabmnkddmdffkaaGreatDoor
open Go.RowKit Go.Shelf
abbrev Bld (B b : Nat) (l : List UInt8) (w : World) : Prop := Lib.IsBuilder 174 5 B b (Lib.byteCells l) w
abbrev BldU (B b : Nat) (l : List UInt8) (w : World) : Prop := Lib.BuilderAt 174 5 B b (.pointer (some ⟨b, 0, none⟩)) (Lib.byteCells l) w
theorem sizeB : (Tryz.prog.info? 174).map (fun i : TypeInfo => i.size) = some 2 := by kernel_rfl
theorem info5 : (Tryz.prog.info? 5).map (fun i : TypeInfo => (i.zero, i.size, i.bytes)) = some (some (.int .u8 0), 1, 1) := by kernel_rfl
set_option maxHeartbeats 1000000 in
set_option maxRecDepth 100000 in
theorem check_used (b : Nat) (w : World) (h0 : w.cell? ⟨b, 0, none⟩ = some (.pointer (some ⟨b, 0, none⟩))) :
  Calls Tryz.prog 133 #[.pointer (some ⟨b, 0, none⟩)] w fun e w' => e = .returned (.tuple #[]) ∧ w' = w := by
 obtain ⟨j, hj, _⟩ := Option.map_eq_some_iff.1 sizeB
 go_enter Tryz.func133, Tryz.ntmps133
 go_wp2
 rw [Lib.run_neq_ptr_same w _ Tryz.underlying172 hj]
 go_wp2
 go_end0
 exact ⟨rfl, rfl⟩
set_option maxHeartbeats 1000000 in
set_option maxRecDepth 100000 in
theorem check_fresh (b : Nat) (w : World) (h0 : w.cell? ⟨b, 0, none⟩ = some (.pointer none)) (hsh : w.shape? b = some (174, 2)) (hfz : w.frozen? ⟨b, 0, none⟩ = false) :
  Calls Tryz.prog 133 #[.pointer (some ⟨b, 0, none⟩)] w fun e w' => e = .returned (.tuple #[]) ∧ w' = w.setCell ⟨b, 0, none⟩ (.pointer (some ⟨b, 0, none⟩)) := by
 obtain ⟨j, hj, hjs⟩ := Option.map_eq_some_iff.1 sizeB
 go_enter Tryz.func133, Tryz.ntmps133
 go_wp2
 rw [Lib.run_to_unsafe w ⟨b, 0, none⟩ Tryz.underlying172 Tryz.underlying133 hj (by rw [hjs]; decide) hsh (Nat.zero_lt_succ 1)]
 simp only [Result.andThen]
 rw [Oper.upon_value]
 go_wp2
 rw [run_callFunc_extern Tryz.func153 (by kernel_rfl) (by kernel_rfl) (by kernel_rfl) (e := Extern.AbiNoEscape.same) (by kernel_rfl)]
 rw [Lib.run_noEscape]
 simp only [Result.andThen]
 rw [Oper.upon_value]
 go_wp2
 rw [Lib.run_from_unsafe w ⟨b, 0, none⟩ Tryz.underlying133 Tryz.underlying172 hj hsh Tryz.Builder_Extra_169.liesBuilder]
 simp only [Result.andThen]
 rw [Oper.upon_value]
 go_wp2
 go_end0
 exact ⟨rfl, rfl⟩
theorem check_any (B b : Nat) (l : List UInt8) (w : World) (h : Bld B b l w) :
  Calls Tryz.prog 133 #[.pointer (some ⟨b, 0, none⟩)] w fun e w' => e = .returned (.tuple #[]) ∧ BldU B b l w' ∧ Below B w w' := by
 rcases h with h | h
 ·refine (check_fresh b w h.cell0 h.shape h.frozen0).mono ?_
  rintro e w' ⟨rfl, rfl⟩
  exact ⟨rfl, h.used _, (Below.refl B w).setCell (p := ⟨b, 0, none⟩) h.1 _⟩
 ·refine (check_used b w h.cell0).mono ?_
  rintro e w' ⟨rfl, rfl⟩
  exact ⟨rfl, h, Below.refl B _⟩
theorem new_cell (w1 : World) (x : Value) (t : TypeId) : ∀ j u, [x][j]? = some u → (w1.alloc (.cells #[x] t)).cell? ((⟨w1.heap.size, 0, none⟩ : Addr).add j) = some u := by
 intro j u hj
 match j, hj with
 | 0, hj => simp at hj; subst hj; simp [Addr.add]
set_option maxHeartbeats 2000000 in
set_option maxRecDepth 100000 in
theorem wbyte_any (B b : Nat) (l : List UInt8) (c : UInt8) (cn : Nat) (hcn : c.toNat = cn) (w : World) (h : Bld B b l w) (hlen : l.length + 1 ≤ 140737488355328) (hBw : B ≤ w.heap.size) :
  Calls Tryz.prog 102 #[.pointer (some ⟨b, 0, none⟩), .int .u8 cn] w fun e w' => e = .returned .nilIface ∧ Bld B b (l ++ [c]) w' ∧ Below B w w' := by
 obtain ⟨i0, hi, hz0, hz1, hz2⟩ := info_parts info5
 go_enter Tryz.func102, Tryz.ntmps102
 go_wp2_with (go_at_call 133; refine (check_any B b l _ h).mono ?_)
 rintro e w1 ⟨rfl, h1, hb1⟩
 obtain ⟨hB, v, hbk, hown, hne⟩ := h1
 have hsz := hb1.size
 have hl : (Lib.byteCells l).length = l.length := Lib.byteCells_length l
 have c0 : w1.cell? ⟨b, 0, none⟩ = some (.pointer (some ⟨b, 0, none⟩)) := by rw [Lib.cell_of_heap hbk]; rfl
 have c1 : w1.cell? ⟨b, 1, none⟩ = some v := by rw [Lib.cell_of_heap hbk]; rfl
 go_wp2_with (at_builtin; refine wpList_append_own _ rfl _ _ 57 rfl B 5 i0 (.int .u8 0) 1 1 Tryz.underlying57 hi hz0 hz1 hz2 rfl (by decide) _ _ _ rfl (hown.alloc _) ⟨w1.heap.size, 0, none⟩ 1 1 [.int .u8 cn] rfl rfl (new_cell _ _ _) (by intro u hu; simp at hu; subst hu; rfl) (by rw [hl]; unfold maxLen; omega) (by rw [hl]; omega) (by simp; omega) ?_)
 intro v' w2 hown' hgrow _
 have hlt : b < w1.heap.size := (Array.getElem?_eq_some_iff.1 hbk).1
 have hb2 : w2.heap[b]? = some (.cells #[.pointer (some ⟨b, 0, none⟩), v] 174 (0, 0)) := by
  rw [hgrow.block b (by simp; omega) (fun e => hne e.symm), Lib.alloc_old w1 _ b hlt]
  exact hbk
 have d0 : w2.cell? ⟨b, 0, none⟩ = some (.pointer (some ⟨b, 0, none⟩)) := by rw [Lib.cell_of_heap hb2]; rfl
 have d1 : w2.cell? ⟨b, 1, none⟩ = some v := by rw [Lib.cell_of_heap hb2]; rfl
 have f1 : w2.frozen? ⟨b, 1, none⟩ = false := Lib.frozen_of_heap hb2 1
 obtain ⟨g, cap, rfl⟩ : ∃ g cap, v' = .slice (some ⟨g, 0, none⟩) (l.length + 1) cap := by
  rcases hown'.2 with ⟨_, h0⟩ | ⟨g, cap, cur, hv, _⟩
  ·omega
  ·exact ⟨g, cap, hv⟩
 go_wp2
 go_ret
 have e1 : Lib.byteCells (l ++ [c]) = Lib.byteCells l ++ [.int .u8 cn] := by rw [← hcn]; simp [Lib.byteCells]
 refine ⟨rfl, .inr ?_, ?_⟩
 ·rw [e1]; exact Lib.BuilderAt.put (T := 174) (e := 5) hB hb2 (bs' := Lib.byteCells l ++ [.int .u8 cn]) (by simpa [hl] using hown') (by decide)
 ·exact ((hb1.alloc (by omega) _).grown hgrow (by simp; omega) (fun k hk => (hown.lt k hk).1)).setCell (p := ⟨b, 1, none⟩) hB _
set_option maxHeartbeats 2000000 in
set_option maxRecDepth 100000 in
theorem write_any (B b : Nat) (l : List UInt8) (s : ByteArray) (w : World) (h : Bld B b l w) (hlen : l.length + s.size ≤ 140737488355328) (hBw : B ≤ w.heap.size) :
  Calls Tryz.prog 103 #[.pointer (some ⟨b, 0, none⟩), .string s] w fun e w' => e = .returned (.tuple #[.int .i64 s.size, .nilIface]) ∧ Bld B b (l ++ tl s) w' ∧ Below B w w' := by
 obtain ⟨i0, hi, hz0, hz1, hz2⟩ := info_parts info5
 go_enter Tryz.func103, Tryz.ntmps103
 go_wp2_with (go_at_call 133; refine (check_any B b l _ h).mono ?_)
 rintro e w1 ⟨rfl, h1, hb1⟩
 obtain ⟨hB, v, hbk, hown, hne⟩ := h1
 have hsz := hb1.size
 have hl : (Lib.byteCells l).length = l.length := Lib.byteCells_length l
 have c0 : w1.cell? ⟨b, 0, none⟩ = some (.pointer (some ⟨b, 0, none⟩)) := by rw [Lib.cell_of_heap hbk]; rfl
 have c1 : w1.cell? ⟨b, 1, none⟩ = some v := by rw [Lib.cell_of_heap hbk]; rfl
 go_wp2_with (at_builtin; refine Lib.wpList_append_own_string _ rfl _ _ 57 9 rfl B 5 i0 Tryz.underlying57 Tryz.underlying9 hi hz0 hz1 hz2 _ _ _ rfl hown s rfl (by rw [hl]; unfold maxLen; omega) (by rw [hl]; omega) (by omega) ?_)
 intro v' w2 hown' hgrow _
 have hlt : b < w1.heap.size := (Array.getElem?_eq_some_iff.1 hbk).1
 have hb2 : w2.heap[b]? = some (.cells #[.pointer (some ⟨b, 0, none⟩), v] 174 (0, 0)) := by
  rw [hgrow.block b hlt (fun e => hne e.symm)]
  exact hbk
 have d0 : w2.cell? ⟨b, 0, none⟩ = some (.pointer (some ⟨b, 0, none⟩)) := by rw [Lib.cell_of_heap hb2]; rfl
 have d1 : w2.cell? ⟨b, 1, none⟩ = some v := by rw [Lib.cell_of_heap hb2]; rfl
 have f1 : w2.frozen? ⟨b, 1, none⟩ = false := Lib.frozen_of_heap hb2 1
 obtain ⟨ao, n', cap, rfl⟩ : ∃ ao n' cap, v' = .slice ao n' cap := by
  rcases hown'.2 with ⟨hv, _⟩ | ⟨g, cap, cur, hv, _⟩
  ·exact ⟨_, _, _, hv⟩
  ·exact ⟨_, _, _, hv⟩
 go_wp2
 go_ret2
 have e1 : Lib.byteCells (l ++ tl s) = Lib.byteCells l ++ Lib.strCells s := by simp [Lib.byteCells, Lib.strCells, tl]
 refine ⟨rfl, .inr ?_, ?_⟩
 ·rw [e1]; exact Lib.BuilderAt.put (T := 174) (e := 5) hB hb2 (bs' := Lib.byteCells l ++ Lib.strCells s) (by simpa [Lib.strCells_length, hl] using hown') (by decide)
 ·exact (hb1.grown hgrow (by omega) (fun k hk => (hown.lt k hk).1)).setCell (p := ⟨b, 1, none⟩) hB _
theorem string_any (B b : Nat) (l : List UInt8) (w : World) (h : Bld B b l w) (hBw : B ≤ w.heap.size) :
  Calls Tryz.prog 104 #[.pointer (some ⟨b, 0, none⟩)] w fun e w' => e = .returned (.string (mk l)) ∧ Below B w w' :=
 Tryz.Builder_String_any B b l w h hBw
theorem clone_any (s : ByteArray) (w : World) (hlim : s.size ≤ 281474976710656) :
  Calls Tryz.prog 30 #[.string s] w fun e w' => e = .returned (.string s) ∧ Below w.heap.size w w' := by
 go_enter Tryz.func30, Tryz.ntmps30
 go_wp2_with (go_at_call 60; refine (Tryz.stringslite_Clone _ _ hlim).mono ?_; rintro e w' ⟨rfl, hb⟩)
 go_ret
 exact ⟨rfl, hb⟩
end Go.Proofs.YtabmnkddmdffkaaGreatDoor
namespace Go.Proofs.YtabmnkddmdffkaaGreatDoor
open Go.RowKit Go.Shelf
abbrev sv (x : List UInt8) : Value := .string (mk x)
abbrev Row (W : World) (base : Nat) (v : Value) (K : List (List UInt8)) : Prop := W.ownsRow base 9 1 v K.length (K.map sv)
def Strs (W : World) (v : Value) (K : List (List UInt8)) : Prop :=
 (v = .slice none 0 0 ∧ K = []) ∨ ∃ b off cap, v = .slice (some ⟨b, off, none⟩) K.length cap ∧ K.length ≤ cap ∧ cap ≤ maxLen ∧ b < W.heap.size ∧ ∀ j, j < K.length → W.cell? ⟨b, off + j, none⟩ = some (sv (K.getD j []))
theorem Strs.of_row {W : World} {base : Nat} {v : Value} {L : List (List UInt8)} (h : Row W base v L) : Strs W v L := by
 rcases h.2 with ⟨rfl, h0⟩ | ⟨g, cap, cur, rfl, hg, hgb, h1, h2, h3, h4⟩
 ·exact .inl ⟨rfl, List.length_eq_zero_iff.1 h0⟩
 ·refine .inr ⟨g, 0, cap, rfl, h1, h2, (Array.getElem?_eq_some_iff.1 hgb).1, fun j hj => ?_⟩
  have hj' : (L.map sv)[j]? = some (sv (L.getD j [])) := by
   rw [List.getElem?_map, List.getD_eq_getElem?_getD, List.getElem?_eq_getElem hj]; rfl
  rw [← h4, List.getElem?_take_of_lt (by omega)] at hj'
  simp only [World.cell?, hgb, Nat.zero_add]
  simpa using hj'
theorem sl_next (K : List (List UInt8)) (k : Nat) (h : k < K.length) : sl true (K.take (k + 1)) = sl true (K.take k) ++ ((if k = 0 then [] else [47]) ++ K.getD k []) := by
 rw [List.take_succ_eq_append_getElem h, sl_append, List.getD_eq_getElem?_getD, List.getElem?_eq_getElem h]
 have e : (K.take k).isEmpty = decide (k = 0) := by
  cases k with
  | zero => simp
  | succ k => cases K with
   | nil => simp at h
   | cons _ _ => simp
 rw [e]
 by_cases hk : k = 0 <;> simp [sl, hk]
theorem tw_take (K : List (List UInt8)) (k : Nat) : tw (K.take k) ≤ tw K := by
 conv => rhs; rw [← List.take_append_drop k K, tw_append]
 omega
theorem sl_take_len (K : List (List UInt8)) (k : Nat) : (sl true (K.take k)).length ≤ tw K := Nat.le_trans (sl_tw _ _) (tw_take K k)
set_option maxRecDepth 100000 in
set_option maxHeartbeats 1000000 in
theorem join_some (K : List (List UInt8)) (b off cap : Nat) (w : World) (hb : b < w.heap.size) (hc : ∀ j, j < K.length → w.cell? ⟨b, off + j, none⟩ = some (sv (K.getD j [])))
  (hj : tw K ≤ 1000000) :
  Calls Tryz.prog 74 #[.slice (some ⟨b, off, none⟩) K.length cap] w fun e w' => e = .returned (.string (mk (sl true K))) ∧ Below w.heap.size w w' := by
 have hl : K.length ≤ 1000000 := Nat.le_trans (len_tw K) hj
 have hb0 := Lib.fresh_isBuilder 174 5 w
 have HC := hide' hc
 clear hc
 go_enter Tryz.func74, Tryz.ntmps74
 go_wp2
 go_loopw [8] (fun i wr => ∃ k : Nat, k ≤ K.length ∧ i = .int .i64 k ∧ Bld w.heap.size w.heap.size (sl true (K.take k)) wr ∧ Below w.heap.size w wr) (fun i _ => K.length - (intOf i).toNat)
 case atStart => exact ⟨0, Nat.zero_le _, rfl, hb0, (Below.refl _ w).alloc (Nat.le_refl _) _⟩
 case round =>
  obtain ⟨k, hk, rfl, hbl, hB⟩ := hrel
  have hsz := hB.size
  by_cases hlt : k < K.length
  ·have c1 := (hB.cell (p := ⟨b, off + k, none⟩) hb).trans (HC.out k hlt)
   have hnx := sl_next K k hlt
   have hle := Nat.le_trans (sl_take_len K (k + 1)) hj
   generalize K.getD k [] = x at c1 hnx
   by_cases h0 : k = 0
   ·rw [if_pos h0, List.nil_append] at hnx
    have hln : (sl true (K.take k)).length + (mk x).size ≤ 140737488355328 := by rw [hnx, List.length_append] at hle; rw [mk_size]; omega
    have HN := hide' hnx
    clear hnx hle
    subst h0
    rw [Nat.add_zero] at c1
    generalize sl true (K.take 0) = P0 at hbl hln HN
    go_wp2_with (go_at_call 103; refine (write_any _ _ _ _ _ hbl hln hsz).mono ?_; rintro e w2 ⟨rfl, hb2, hB2⟩)
    exact ⟨⟨1, by omega, by go_num, by rw [HN.out, ← tl_mk x]; exact hb2, hB.trans hB2⟩, by simp [intOf]; omega⟩
   ·rw [if_neg h0, ← List.append_assoc] at hnx
    have hln : ((sl true (K.take k)) ++ [47]).length + (mk x).size ≤ 140737488355328 := by rw [hnx, List.length_append] at hle; rw [mk_size]; omega
    have hln0 : (sl true (K.take k)).length + 1 ≤ 140737488355328 := by rw [List.length_append] at hln; simp at hln; omega
    have HN := hide' hnx
    have d0 : (0 : Int) < k := by omega
    clear hnx hle
    go_wp2_with fail
    refine (wbyte_any _ _ _ 47 47 rfl _ hbl hln0 hsz).mono ?_
    rintro e w2 ⟨rfl, hb2, hB2⟩
    go_wp2_with fail
    refine (write_any _ _ _ _ _ hb2 hln (Nat.le_trans hsz hB2.size)).mono ?_
    rintro e w3 ⟨rfl, hb3, hB3⟩
    go_wp2
    exact ⟨⟨k + 1, by omega, by go_num, by rw [HN.out, ← tl_mk x]; exact hb3, (hB.trans hB2).trans hB3⟩, by simp [intOf]; omega⟩
  ·have hke : K.take k = K := List.take_of_length_le (by omega)
   rw [hke] at hbl
   clear hke
   go_wp2_with (go_at_call 104; refine (string_any _ _ _ _ hbl hsz).mono ?_; rintro e w2 ⟨rfl, hB2⟩)
   go_ret
   exact ⟨rfl, hB.trans hB2⟩
theorem join_nil (a : Option Addr) (cap : Nat) (w : World) :
  Calls Tryz.prog 74 #[.slice a 0 cap] w fun e w' => e = .returned (.string (mk [])) ∧ Below w.heap.size w w' := by
 have hb0 := Lib.fresh_isBuilder 174 5 w
 go_enter Tryz.func74, Tryz.ntmps74
 go_wp2
 go_loopw [8] (fun i wr => i = .int .i64 0 ∧ Bld w.heap.size w.heap.size [] wr ∧ Below w.heap.size w wr) (fun _ _ => 0)
 case atStart => exact ⟨rfl, hb0, (Below.refl _ w).alloc (Nat.le_refl _) _⟩
 case round =>
  obtain ⟨rfl, hbl, hB⟩ := hrel
  have hsz := hB.size
  go_wp2_with (go_at_call 104; refine (string_any _ _ _ _ hbl hsz).mono ?_; rintro e w2 ⟨rfl, hB2⟩)
  go_ret
  exact ⟨rfl, hB.trans hB2⟩
theorem join_any (K : List (List UInt8)) (v : Value) (w : World) (h : Strs w v K) (hj : tw K ≤ 1000000) :
  Calls Tryz.prog 74 #[v] w fun e w' => e = .returned (.string (mk (sl true K))) ∧ Below w.heap.size w w' := by
 rcases h with ⟨rfl, rfl⟩ | ⟨b, off, cap, rfl, h1, h2, h3, h4⟩
 ·exact join_nil none 0 w
 ·exact join_some K b off cap w h3 h4 hj
end Go.Proofs.YtabmnkddmdffkaaGreatDoor
namespace Go.Proofs.YtabmnkddmdffkaaGreatDoor
open Go.RowKit Go.Shelf
theorem get_eq (s : ByteArray) (k : Nat) (h : k < s.size) : s.get! k = s[k] := by
 simp [ByteArray.get!, getElem!_pos, h]
 rfl
theorem decode_cont (s : ByteArray) (pos : Nat) : ∀ j, 1 ≤ j → j < (Utf8.decode s pos).2 → pos + j < s.size ∧ 128 ≤ (s.get! (pos + j)).toNat := by
 intro j h1 h2
 unfold Utf8.decode at h2
 dsimp only at h2
 repeat' split at h2
 all_goals try (exfalso; simp at h2; omega)
 ·rename_i _ hc _
  simp only [Bool.and_eq_true, decide_eq_true_eq, beq_iff_eq] at hc
  obtain rfl : j = 1 := by simp at h2; omega
  exact ⟨hc.2.1, by have := hc.2.2; omega⟩
 ·rename_i _ _ hc _
  simp only [Bool.and_eq_true, decide_eq_true_eq, beq_iff_eq] at hc
  rcases (by simp at h2; omega : j = 1 ∨ j = 2) with rfl | rfl
  ·exact ⟨hc.1.2.1, by have := hc.1.2.2; omega⟩
  ·exact ⟨hc.2.1, by have := hc.2.2; omega⟩
 ·rename_i _ _ _ hc _
  simp only [Bool.and_eq_true, decide_eq_true_eq, beq_iff_eq] at hc
  rcases (by simp at h2; omega : j = 1 ∨ j = 2 ∨ j = 3) with rfl | rfl | rfl
  ·exact ⟨hc.1.1.2.1, by have := hc.1.1.2.2; omega⟩
  ·exact ⟨hc.1.2.1, by have := hc.1.2.2; omega⟩
  ·exact ⟨hc.2.1, by have := hc.2.2; omega⟩
def pc (l : List UInt8) (a k : Nat) : List UInt8 := (l.drop a).take (k - a)
theorem pc_app (l : List UInt8) (a k n : Nat) (ha : a ≤ k) : pc l a (k + n) = pc l a k ++ (l.drop k).take n := by
 unfold pc
 rw [show k + n - a = (k - a) + n by omega, List.take_add, List.drop_drop, show a + (k - a) = k by omega]
theorem drop_split (l : List UInt8) (k n : Nat) : l.drop k = (l.drop k).take n ++ l.drop (k + n) := by
 rw [← List.drop_drop, List.take_append_drop]
theorem drop_at (s : ByteArray) (k : Nat) (h : k < s.size) : (tl s).drop k = s[k] :: (tl s).drop (k + 1) := by
 unfold tl
 rw [List.drop_eq_getElem_cons (by simpa using h)]; rfl
theorem pc_self (l : List UInt8) (k : Nat) : pc l k k = [] := by unfold pc; simp
def NI (l : List UInt8) (L : List (List UInt8)) (a k : Nat) : Prop := L ++ cutg (pc l a k) (l.drop k) = cut l
theorem ni_slash (s : ByteArray) (L : List (List UInt8)) (a k : Nat) (h : k < s.size) (hb : s[k] = 47) (hI : NI (tl s) L a k) : NI (tl s) (L ++ [pc (tl s) a k]) (k + 1) (k + 1) := by
 unfold NI at hI ⊢
 rw [drop_at s k h, hb, cutg, if_pos rfl] at hI
 rw [pc_self, ← hI]
 simp
theorem ni_other (s : ByteArray) (L : List (List UInt8)) (a k n : Nat) (ha : a ≤ k) (hn : 47 ∉ ((tl s).drop k).take n) (hI : NI (tl s) L a k) : NI (tl s) L a (k + n) := by
 unfold NI at hI ⊢
 rw [drop_split (tl s) k n, cutg_word _ _ _ hn] at hI
 rw [pc_app _ _ _ _ ha]
 exact hI
theorem ni_end (s : ByteArray) (L : List (List UInt8)) (a : Nat) (hI : NI (tl s) L a s.size) : L ++ [pc (tl s) a s.size] = cut (tl s) := by
 unfold NI at hI
 rw [List.drop_eq_nil_of_le (by rw [tl_len]; omega)] at hI
 exact hI
theorem no_slash (s : ByteArray) (pos : Nat) (h : pos < s.size) (hne : ¬ s[pos] = 47) : 47 ∉ ((tl s).drop pos).take (Utf8.decode s pos).2 := by
 intro hm
 obtain ⟨j, hj, e⟩ := List.mem_iff_getElem.1 hm
 rw [List.length_take, List.length_drop, tl_len] at hj
 rw [List.getElem_take, List.getElem_drop] at e
 have e2 : s[pos + j]'(by omega) = 47 := e
 by_cases h0 : j = 0
 ·subst h0; exact hne e2
 ·have := (decode_cont s pos j (by omega) (by omega)).2
  rw [get_eq s (pos + j) (by omega), e2] at this
  exact absurd this (by decide)
theorem width_le (s : ByteArray) (pos : Nat) (h : pos < s.size) : pos + (Utf8.decode s pos).2 ≤ s.size := by
 by_cases h1 : (Utf8.decode s pos).2 ≤ 1
 ·omega
 ·have := (decode_cont s pos ((Utf8.decode s pos).2 - 1) (by omega) (by omega)).1
  omega
theorem rune_no (s : ByteArray) (pos : Nat) (h : pos < s.size) (hne : ¬ s[pos] = 47) : (((Utf8.decode s pos).1 : Int) == 47) = false ∧ 1 ≤ (Utf8.decode s pos).2 := by
 by_cases ha : (s[pos]'h).toNat < 128
 ·rw [decode_ascii s pos h ha]
  exact ⟨beq_no _ 47 47 rfl hne, Nat.le_refl _⟩
 ·have := decode_high s pos h (by omega)
  exact ⟨beq_eq_false_iff_ne.2 (by omega), this.2⟩
theorem info9 : (Tryz.prog.info? 9).map (fun i : TypeInfo => (i.zero, i.size, i.bytes)) = some (some (.string ⟨#[]⟩), 1, 16) := by kernel_rfl
theorem row_not {W : World} {base : Nat} {e : TypeId} {m k : Nat} {v : Value} {xs : List Value} (h : W.ownsRow base e m v k xs) {B : Nat} (hB : B < base) : some B ≠ v.ownBlock := by
 rcases h.2 with ⟨rfl, _⟩ | ⟨g, cap, cur, rfl, hg, _⟩
 ·simp [Value.ownBlock]
 ·simp [Value.ownBlock]; omega
theorem row_mono {W : World} {base base' : Nat} {e : TypeId} {m k : Nat} {v : Value} {xs : List Value} (h : W.ownsRow base e m v k xs) (hb : base' ≤ base) : W.ownsRow base' e m v k xs := by
 refine ⟨h.1, ?_⟩
 rcases h.2 with h0 | ⟨g, cap, cur, h1, h2, h3⟩
 ·exact .inl h0
 ·exact .inr ⟨g, cap, cur, h1, Nat.le_trans hb h2, h3⟩
theorem row_iter {W : World} {base : Nat} {e : TypeId} {m k : Nat} {v : Value} {xs : List Value} (h : W.ownsRow base e m v k xs) {B : Nat} (hB : B < base) (s : ByteArray) (p : Nat) : (W.iterAt B s p).ownsRow base e m v k xs := by
 refine ⟨h.1, ?_⟩
 rcases h.2 with h0 | ⟨g, cap, cur, h1, h2, h3, h4⟩
 ·exact .inl h0
 ·exact .inr ⟨g, cap, cur, h1, h2, (Lib.iterAt_other W B g s p (by omega)).trans h3, h4⟩
theorem app_below {w W w1 : World} {base base' : Nat} {e : TypeId} {v : Value} {k : Nat} {xs : List Value} {tmp : Obj} (hB : Below base w W) (hbb : base ≤ base') (hbase : base ≤ W.heap.size) (hrow : W.ownsRow base' e 1 v k xs) (hgrow : (W.alloc tmp).grownBy w1 v.ownBlock) : Below base w w1 := by
 refine (hB.alloc hbase tmp).grown hgrow (by simp; omega) fun j ej => ?_
 rcases hrow.2 with ⟨rfl, _⟩ | ⟨g, cap, cur, rfl, hb, _, _⟩
 ·simp [Value.ownBlock] at ej
 ·obtain rfl : g = j := by simpa [Value.ownBlock] using ej
  omega
theorem app_iter {W w1 : World} {base : Nat} {e : TypeId} {v : Value} {k : Nat} {xs : List Value} {tmp : Obj} {B : Nat} {o : Obj} (hit : W.heap[B]? = some o) (hrow : W.ownsRow base e 1 v k xs) (hB : B < base) (hgrow : (W.alloc tmp).grownBy w1 v.ownBlock) : w1.heap[B]? = some o := by
 have hlt : B < W.heap.size := (Array.getElem?_eq_some_iff.1 hit).1
 rw [hgrow.block B (by simp; omega) (row_not hrow hB), Lib.alloc_old W _ B hlt]
 exact hit
theorem row_snoc {W : World} {base : Nat} {v : Value} {L : List (List UInt8)} {x : List UInt8} {y : ByteArray} (hy : y = mk x) (h : W.ownsRow base 9 1 v (L.length + 1) (L.map sv ++ [.string y])) : Row W base v (L ++ [x]) := by
 subst hy
 unfold Row
 rw [List.length_append, List.map_append]
 exact h
set_option maxRecDepth 100000 in
set_option maxHeartbeats 2000000 in
theorem names_any (s : ByteArray) (hs : s.size ≤ 1000000) (w : World) :
  Calls Tryz.prog 105 #[.string s] w fun e W' => ∃ v : Value, e = .returned v ∧ Row W' w.heap.size v (cut (tl s)) ∧ Below w.heap.size w W' := by
 obtain ⟨i0, hi, hz0, hz1, hz2⟩ := info_parts info9
 go_enter Tryz.func105, Tryz.ntmps105
 go_wp2
 go_loopw [3, 4] (fun o f wr => ∃ (pos a : Nat) (L : List (List UInt8)), pos ≤ s.size ∧ a ≤ pos ∧ L.length ≤ pos ∧ f = .int .i64 a ∧ wr.heap[w.heap.size]? = some (.stringIter s pos) ∧ Row wr (w.heap.size + 1) o L ∧ Below w.heap.size w wr ∧ Hid (NI (tl s) L a pos)) (fun _ _ wr => s.size - wr.iterPos w.heap.size)
 case atStart => exact ⟨0, 0, [], Nat.zero_le _, Nat.le_refl _, Nat.le_refl _, rfl, World.iter_heap w s 0, World.ownsRow_nil _ _ _ _, (Below.refl _ w).alloc (Nat.le_refl _) _, rfl⟩
 case round =>
  obtain ⟨pos, a, L, hp, ha, hL, rfl, hit, hrow, hB, HI⟩ := hrel
  have hsz : w.heap.size < wr.heap.size := (Array.getElem?_eq_some_iff.1 hit).1
  have hpb : L.length + 1 ≤ maxLen := by unfold maxLen; omega
  have hbb : (L.length + 1) * 16 ≤ 140737488355328 := by omega
  by_cases hlt : pos < s.size
  ·by_cases h47 : s[pos] = 47
   ·have hd : Utf8.decode s pos = (47, 1) := by rw [decode_ascii s pos hlt (by rw [h47]; decide), h47]; rfl
    have hnx := fun ty => Lib.run_next_any_at (P := Tryz.prog) wr w.heap.size s pos ty hit hlt
    rw [hd] at hnx
    have hit1 := Lib.iterAt_heap wr w.heap.size s pos (pos + 1) hit
    have hrow1 := row_iter hrow (Nat.lt_succ_self _) s (pos + 1)
    have hB1 := Lib.below_iterAt hB (Nat.le_refl _) s (pos + 1)
    have hs1 : w.heap.size < (wr.iterAt w.heap.size s (pos + 1)).heap.size := by rw [Lib.iterAt_size]; exact hsz
    have HI1 := hide' (ni_slash s L a pos hlt h47 HI.out)
    have hme : wr.iterPos w.heap.size = pos := by simp only [World.iterPos, hit]
    clear hd h47 HI hrow hB
    generalize wr.iterAt w.heap.size s (pos + 1) = W1 at hnx hit1 hrow1 hB1 hs1
    have h2b : ∀ o, w.heap.size + 1 ≤ (W1.alloc o).heap.size := fun o => by simp; omega
    go_wp2_with (at_builtin; refine wpList_append_own _ rfl _ _ 40 rfl (w.heap.size + 1) 9 i0 (.string ⟨#[]⟩) 1 16 Tryz.underlying40 hi hz0 hz1 hz2 rfl (by decide) _ _ _ rfl (hrow1.alloc _) ⟨W1.heap.size, 0, none⟩ 1 1 [.string (s.extract a pos)] rfl rfl (cell_one_new _ _ _) (by simp [Value.oneCell']) hpb hbb (h2b _) ?_; intro v' w2 hown' hgrow hif; clear hif)
    exact ⟨⟨pos + 1, pos + 1, L ++ [pc (tl s) a pos], by omega, Nat.le_refl _, by simp; omega, by go_num, app_iter hit1 hrow1 (Nat.lt_succ_self _) hgrow, row_snoc (ext_mk s a pos) hown', app_below hB1 (Nat.le_succ _) (by omega) hrow1 hgrow, HI1⟩, by rw [hme]; simp only [World.iterPos, app_iter hit1 hrow1 (Nat.lt_succ_self _) hgrow]; omega⟩
   ·obtain ⟨hr, hw1⟩ := rune_no s pos hlt h47
    have hw2 := width_le s pos hlt
    have hnx := fun ty => Lib.run_next_any_at (P := Tryz.prog) wr w.heap.size s pos ty hit hlt
    have HI1 := hide' (ni_other s L a pos _ ha (no_slash s pos hlt h47) HI.out)
    have hit1 := Lib.iterAt_heap wr w.heap.size s pos (pos + (Utf8.decode s pos).2) hit
    have hrow1 := row_iter hrow (Nat.lt_succ_self _) s (pos + (Utf8.decode s pos).2)
    have hB1 := Lib.below_iterAt hB (Nat.le_refl _) s (pos + (Utf8.decode s pos).2)
    have hme : wr.iterPos w.heap.size = pos := by simp only [World.iterPos, hit]
    clear h47 HI hrow hB hpb hbb
    generalize wr.iterAt w.heap.size s (pos + (Utf8.decode s pos).2) = W1 at hnx hit1 hrow1 hB1
    generalize (Utf8.decode s pos).2 = wd at hw1 hw2 HI1 hit1
    generalize (Utf8.decode s pos).1 = r at hr hnx
    go_wp2
    exact ⟨⟨pos + wd, a, L, hw2, by omega, by omega, rfl, hit1, hrow1, hB1, HI1⟩, by rw [hme]; simp only [World.iterPos, hit1]; omega⟩
  ·obtain rfl : pos = s.size := by omega
   have hnx := fun ty => Lib.run_next_end_at (P := Tryz.prog) wr w.heap.size s s.size ty hit hlt
   have HI1 := hide' (ni_end s L a HI.out)
   have h2b : ∀ o, w.heap.size + 1 ≤ (wr.alloc o).heap.size := fun o => by simp; omega
   clear HI
   go_wp2_with (at_builtin; refine wpList_append_own _ rfl _ _ 40 rfl (w.heap.size + 1) 9 i0 (.string ⟨#[]⟩) 1 16 Tryz.underlying40 hi hz0 hz1 hz2 rfl (by decide) _ _ _ rfl (hrow.alloc _) ⟨wr.heap.size, 0, none⟩ 1 1 [.string (s.extract a s.size)] rfl rfl (cell_one_new _ _ _) (by simp [Value.oneCell']) hpb hbb (h2b _) ?_; intro v' w2 hown' hgrow hif; clear hif)
   go_ret
   exact ⟨_, rfl, by rw [← HI1.out]; exact row_mono (row_snoc (ext_mk s a s.size) hown') (Nat.le_succ _), app_below hB (Nat.le_succ _) (by omega) hrow hgrow⟩
end Go.Proofs.YtabmnkddmdffkaaGreatDoor
namespace Go.Proofs.YtabmnkddmdffkaaGreatDoor
open Go.RowKit Go.Shelf
theorem row_form {W : World} {base : Nat} {v : Value} {K : List (List UInt8)} (h : Row W base v K) (hne : K ≠ []) : ∃ g cap, v = .slice (some ⟨g, 0, none⟩) K.length cap ∧ K.length ≤ cap ∧ cap ≤ maxLen ∧ g < W.heap.size ∧ (∀ j, j < K.length → W.cell? ⟨g, j, none⟩ = some (sv (K.getD j []))) ∧ Row W base (.slice (some ⟨g, 0, none⟩) (K.length - 1) cap) K.dropLast := by
 have h0 := h
 rcases Strs.of_row h with ⟨_, e⟩ | _
 ·exact absurd e hne
 ·rcases h.2 with ⟨rfl, e0⟩ | ⟨g, cap, cur, rfl, hg, hgb, h1, h2, h3, h4⟩
  ·exact absurd (List.length_eq_zero_iff.1 e0) hne
  ·have hlt := (Array.getElem?_eq_some_iff.1 hgb).1
   refine ⟨g, cap, rfl, h1, h2, hlt, fun j hj => ?_, ?_⟩
   ·have hj' : (K.map sv)[j]? = some (sv (K.getD j [])) := by
     rw [List.getElem?_map, List.getD_eq_getElem?_getD, List.getElem?_eq_getElem hj]; rfl
    rw [← h4, List.getElem?_take_of_lt (by omega)] at hj'
    simp only [World.cell?, hgb]
    simpa using hj'
   ·refine ⟨?_, .inr ⟨g, cap, cur, ?_, hg, hgb, ?_, h2, h3, ?_⟩⟩
    ·simp
    ·rw [List.length_dropLast]
    ·rw [List.length_dropLast]; omega
    ·have hl : cur.toList.length = cur.size := by simp
     rw [List.length_dropLast, List.map_dropLast, ← h4, List.dropLast_eq_take, List.take_take, List.length_take, hl, h3]
     congr 1
     omega
set_option maxHeartbeats 400000 in
theorem without_some (g n cap : Nat) (w : World) (h0 : 0 < n) (h1 : n ≤ cap) (h2 : cap ≤ maxLen) :
  Calls Tryz.prog 106 #[.slice (some ⟨g, 0, none⟩) n cap] w fun e w' => e = .returned (.slice (some ⟨g, 0, none⟩) (n - 1) cap) ∧ w' = w := by
 unfold maxLen at h2
 obtain ⟨m, rfl⟩ : ∃ m, n = m + 1 := ⟨n - 1, by omega⟩
 go_enter Tryz.func106, Tryz.ntmps106
 go_wp2
 go_ret
 exact ⟨by simp, rfl⟩
theorem cut_ne (l : List UInt8) : cut l ≠ [] := by
 intro e
 have := cut_tw l
 rw [e] at this
 simp [tw] at this
theorem keep_next (K : List (List UInt8)) (k : Nat) (h : k < K.length) : keep [] (K.take (k + 1)) = kstep (keep [] (K.take k)) (K.getD k []) := by
 rw [List.take_succ_eq_append_getElem h, keep_append, List.getD_eq_getElem?_getD, List.getElem?_eq_getElem h]
 rfl
theorem cut_len (l : List UInt8) : (cut l).length ≤ l.length + 1 := by have := len_tw (cut l); rwa [cut_tw] at this
theorem k_skip (M : List (List UInt8)) (x : List UInt8) (h : x = [] ∨ x = [46]) : kstep M x = M := by unfold kstep; rw [if_pos h]
theorem k_back (M : List (List UInt8)) : kstep M [46, 46] = M.dropLast := by unfold kstep; rw [if_neg (by decide), if_pos rfl]
theorem k_more (M : List (List UInt8)) (x : List UInt8) (h1 : x ≠ []) (h2 : x ≠ [46]) (h3 : x ≠ [46, 46]) : kstep M x = M ++ [x] := by unfold kstep; rw [if_neg (by intro e; rcases e with e | e; exact h1 e; exact h2 e), if_neg h3]
set_option maxRecDepth 100000 in
set_option maxHeartbeats 2000000 in
theorem kept_any (s : ByteArray) (hs : s.size ≤ 500000) (w : World) :
  Calls Tryz.prog 75 #[.string s] w fun e W' => ∃ v : Value, e = .returned v ∧ Row W' w.heap.size v (kpt (tl s)) ∧ Below w.heap.size w W' := by
 obtain ⟨i0, hi, hz0, hz1, hz2⟩ := info_parts info9
 go_enter Tryz.func75, Tryz.ntmps75
 go_wp2_with fail
 refine (names_any s (by omega) _).mono ?_
 rintro e w1 ⟨v1, rfl, hrow1, hB1⟩
 have hKl := cut_len (tl s)
 rw [tl_len] at hKl
 obtain ⟨g, cap, rfl, hc1, hc2, hg, hcell, _⟩ := row_form hrow1 (cut_ne _)
 clear hrow1
 have HK : Hid (keep [] (cut (tl s)) = kpt (tl s)) := rfl
 generalize cut (tl s) = K at hKl hc1 hcell HK
 have HC := hide' hcell
 clear hcell
 have hsz1 := hB1.size
 go_wp2
 go_loopw [3, 9] (fun o i wr => ∃ (k : Nat) (M : List (List UInt8)), k ≤ K.length ∧ i = .int .i64 k ∧ M.length ≤ k ∧ Row wr w1.heap.size o M ∧ Below w1.heap.size w1 wr ∧ Hid (M = keep [] (K.take k))) (fun _ i _ => K.length - (intOf i).toNat)
 case atStart => exact ⟨0, [], Nat.zero_le _, rfl, Nat.le_refl _, World.ownsRow_nil _ _ _ _, Below.refl _ _, rfl⟩
 case round =>
  obtain ⟨k, M, hk, rfl, hM, hrow, hB, HM⟩ := hrel
  have hsz := hB.size
  by_cases hlt : k < K.length
  ·have c1 := (hB.cell (p := ⟨g, k, none⟩) hg).trans (HC.out k hlt)
   have hnx := keep_next K k hlt
   rw [← HM.out] at hnx
   generalize K.getD k [] = x at c1 hnx
   by_cases h1 : x = []
   ·subst h1
    rw [k_skip M [] (.inl rfl)] at hnx
    have HN := hide' hnx
    clear hnx HM
    go_wp2
    exact ⟨⟨k + 1, M, by omega, by go_num, by omega, hrow, hB, HN.out.symm⟩, by simp [intOf]; omega⟩
   by_cases h2 : x = [46]
   ·subst h2
    rw [k_skip M [46] (.inr rfl)] at hnx
    have HN := hide' hnx
    clear hnx HM
    go_wp2
    exact ⟨⟨k + 1, M, by omega, by go_num, by omega, hrow, hB, HN.out.symm⟩, by simp [intOf]; omega⟩
   by_cases h3 : x = [46, 46]
   ·subst h3
    rw [k_back] at hnx
    have HN := hide' hnx
    clear hnx HM h1 h2
    by_cases hM0 : M = []
    ·subst hM0
     have hv : ∃ a c, u3 = .slice a 0 c := by
      rcases hrow.2 with ⟨rfl, _⟩ | ⟨g, cap, cur, rfl, _⟩
      ·exact ⟨_, _, rfl⟩
      ·exact ⟨_, _, rfl⟩
     obtain ⟨a, c, rfl⟩ := hv
     go_wp2
     exact ⟨⟨k + 1, [], by omega, by go_num, by simp, hrow, hB, HN.out.symm⟩, by simp [intOf]; omega⟩
    ·obtain ⟨g2, cap2, rfl, d1, d2, _, _, hrow2⟩ := row_form hrow hM0
     have hpos : 0 < M.length := List.length_pos_iff.2 hM0
     clear hrow
     go_wp2_with (go_at_call 106; refine (without_some g2 M.length cap2 _ hpos d1 d2).mono ?_; rintro e w' ⟨rfl, rfl⟩)
     exact ⟨⟨k + 1, M.dropLast, by omega, by go_num, by rw [List.length_dropLast]; omega, hrow2, hB, HN.out.symm⟩, by simp [intOf]; omega⟩
   ·rw [k_more M x h1 h2 h3] at hnx
    have HN := hide' hnx
    have hpb : M.length + 1 ≤ maxLen := by unfold maxLen; omega
    have hbb : (M.length + 1) * 16 ≤ 140737488355328 := by omega
    have h2b : ∀ o, w1.heap.size ≤ (wr.alloc o).heap.size := fun o => by simp; omega
    have j1 : x.isEmpty = false := by cases x with
     | nil => exact absurd rfl h1
     | cons _ _ => rfl
    have j2 : (x == [46]) = false := beq_eq_false_iff_ne.2 h2
    have j3 : (x == [46, 46]) = false := beq_eq_false_iff_ne.2 h3
    clear hnx HM h1 h2 h3
    go_wp2_with (at_builtin; refine wpList_append_own _ rfl _ _ 40 rfl w1.heap.size 9 i0 (.string ⟨#[]⟩) 1 16 Tryz.underlying40 hi hz0 hz1 hz2 rfl (by decide) _ _ _ rfl (hrow.alloc _) ⟨wr.heap.size, 0, none⟩ 1 1 [sv x] rfl rfl (cell_one_new _ _ _) (by simp [Value.oneCell']) hpb hbb (h2b _) ?_; intro v' w2 hown' hgrow hif; clear hif)
    exact ⟨⟨k + 1, M ++ [x], by omega, by go_num, by simp; omega, row_snoc rfl hown', app_below hB (Nat.le_refl _) hsz hrow hgrow, HN.out.symm⟩, by simp [intOf]; omega⟩
  ·have hke : K.take k = K := List.take_of_length_le (by omega)
   have HF : Hid (M = kpt (tl s)) := by show _ = _; rw [HM.out, hke]; exact HK.out
   clear hke HM HK
   go_wp2
   go_ret
   exact ⟨_, rfl, by rw [← HF.out]; exact row_mono hrow hsz1, hB1.trans (hB.mono hsz1)⟩
end Go.Proofs.YtabmnkddmdffkaaGreatDoor
namespace Go.Proofs.YtabmnkddmdffkaaGreatDoor
open Go.RowKit Go.Shelf
theorem kpt_tw' (s : ByteArray) (hs : s.size ≤ 500000) : tw (kpt (tl s)) ≤ 1000000 := by have := kpt_tw (tl s); rw [tl_len] at this; omega
theorem clean_size (s : ByteArray) (hs : s.size ≤ 400000) : (mk (clean (tl s))).size ≤ 500000 := by rw [mk_size]; have := clean_len (tl s); rw [tl_len] at this; omega
set_option maxHeartbeats 400000 in
theorem clean_any (s : ByteArray) (hs : s.size ≤ 500000) (w : World) :
  Calls Tryz.prog 46 #[.string s] w fun e w' => e = .returned (.string (mk (clean (tl s)))) ∧ Below w.heap.size w w' := by
 have ht := kpt_tw' s hs
 go_enter Tryz.func46, Tryz.ntmps46
 go_wp2_with fail
 refine (kept_any s hs _).mono ?_
 rintro e w1 ⟨v, rfl, hrow, hB⟩
 have hS := Strs.of_row hrow
 have hj := join_any _ _ _ hS ht
 have hcl : sl true (kpt (tl s)) = clean (tl s) := rfl
 rw [hcl] at hj
 clear hrow hS hcl
 go_wp2_with fail
 refine hj.mono ?_
 rintro e w2 ⟨rfl, hB2⟩
 go_wp2
 go_ret
 exact ⟨rfl, hB.trans (hB2.mono hB.size)⟩
def parent (l : List UInt8) : List UInt8 := sl true (kpt l).dropLast
def last (l : List UInt8) : List UInt8 := (kpt l).getLastD []
set_option maxHeartbeats 400000 in
theorem parent_any (s : ByteArray) (hs : s.size ≤ 500000) (w : World) :
  Calls Tryz.prog 78 #[.string s] w fun e w' => e = .returned (.string (mk (parent (tl s)))) ∧ Below w.heap.size w w' := by
 have ht := kpt_tw' s hs
 have HP : Hid (parent (tl s) = sl true (kpt (tl s)).dropLast) := rfl
 go_enter Tryz.func78, Tryz.ntmps78
 go_wp2_with fail
 refine (kept_any s hs _).mono ?_
 rintro e w1 ⟨v, rfl, hrow, hB⟩
 by_cases h0 : kpt (tl s) = []
 ·rw [h0] at hrow HP
  have hv : ∃ a c, v = .slice a 0 c := by
   rcases hrow.2 with ⟨rfl, _⟩ | ⟨g, cap, cur, rfl, _⟩
   ·exact ⟨_, _, rfl⟩
   ·exact ⟨_, _, rfl⟩
  obtain ⟨a, c, rfl⟩ := hv
  clear h0 hrow ht
  go_wp2
  go_ret
  exact ⟨ret_str (by rw [HP.out]; rfl), hB⟩
 ·obtain ⟨g, cap, rfl, d1, d2, _, _, hrow2⟩ := row_form hrow h0
  have hpos : 0 < (kpt (tl s)).length := List.length_pos_iff.2 h0
  have ht2 : tw (kpt (tl s)).dropLast ≤ 1000000 := Nat.le_trans (tw_dropLast _) ht
  have hj := join_any _ _ _ (Strs.of_row hrow2) ht2
  rw [← HP.out] at hj
  generalize (kpt (tl s)).length = n at hpos d1 hj
  clear hrow hrow2 ht h0 ht2 HP
  have hz : ((n : Int) == 0) = false := beq_eq_false_iff_ne.2 (by omega)
  go_wp2_with fail
  refine (without_some g n cap _ hpos d1 d2).mono ?_
  rintro e w1' ⟨rfl, rfl⟩
  go_wp2_with fail
  refine hj.mono ?_
  rintro e w2 ⟨rfl, hB2⟩
  go_wp2
  go_ret
  exact ⟨rfl, hB.trans (hB2.mono hB.size)⟩
end Go.Proofs.YtabmnkddmdffkaaGreatDoor
