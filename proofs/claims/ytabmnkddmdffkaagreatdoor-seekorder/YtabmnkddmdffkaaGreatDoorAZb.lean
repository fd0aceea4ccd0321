/- The contracts of strings.Builder's writers and of strings.Clone at this program. Lists of names in memory; the contract of path.join: names with slashes between. -/
import Derived.Test.YtabmnkddmdffkaaGreatDoorAShelf
import Derived.Test.YtabmnkddmdffkaaGreatDoorAWord
import Derived.Shelf.RegionOpen
namespace Go.Proofs.YtabmnkddmdffkaaGreatDoor
open Go.RowKit Go.Shelf

abbrev Bld (B b : Nat) (l : List UInt8) (w : World) : Prop := Lib.IsBuilder 174 5 B b (Lib.byteCells l) w
abbrev BldU (B b : Nat) (l : List UInt8) (w : World) : Prop := Lib.BuilderAt 174 5 B b (.pointer (some ⟨b, 0, none⟩)) (Lib.byteCells l) w
theorem sizeB : (Tryz.prog.info? 174).map (fun i : TypeInfo => i.size) = some 2 := by kernel_rfl
theorem info5 : (Tryz.prog.info? 5).map (fun i : TypeInfo => (i.zero, i.size, i.bytes)) = some (some (.int .u8 0), 1, 1) := by kernel_rfl

set_option maxHeartbeats 1000000 in
set_option maxRecDepth 100000 in
theorem check_used (b : Nat) (w : World) (h0 : w.cell? ⟨b, 0, none⟩ = some (.pointer (some ⟨b, 0, none⟩))) :
    Calls Tryz.prog 133 #[.pointer (some ⟨b, 0, none⟩)] w fun e w' => e = .returned (.tuple #[]) ∧ w' = w := by
  obtain ⟨j, hj, _⟩ := Option.map_eq_some_iff.1 sizeB
  go_enter Tryz.func133, Tryz.ntmps133
  go_wp2
  rw [Lib.run_neq_ptr_same w _ Tryz.underlying172 hj]
  go_wp2
  go_end0
  exact ⟨rfl, rfl⟩

set_option maxHeartbeats 1000000 in
set_option maxRecDepth 100000 in
theorem check_fresh (b : Nat) (w : World) (h0 : w.cell? ⟨b, 0, none⟩ = some (.pointer none)) (hsh : w.shape? b = some (174, 2)) (hfz : w.frozen? ⟨b, 0, none⟩ = false) :
    Calls Tryz.prog 133 #[.pointer (some ⟨b, 0, none⟩)] w fun e w' => e = .returned (.tuple #[]) ∧ w' = w.setCell ⟨b, 0, none⟩ (.pointer (some ⟨b, 0, none⟩)) := by
  obtain ⟨j, hj, hjs⟩ := Option.map_eq_some_iff.1 sizeB
  go_enter Tryz.func133, Tryz.ntmps133
  go_wp2
  rw [Lib.run_to_unsafe w ⟨b, 0, none⟩ Tryz.underlying172 Tryz.underlying133 hj (by rw [hjs]; decide) hsh (Nat.zero_lt_succ 1)]
  simp only [Result.andThen]
  rw [Oper.upon_value]
  go_wp2
  rw [run_callFunc_extern Tryz.func153 (by kernel_rfl) (by kernel_rfl) (by kernel_rfl) (e := Extern.AbiNoEscape.same) (by kernel_rfl)]
  rw [Lib.run_noEscape]
  simp only [Result.andThen]
  rw [Oper.upon_value]
  go_wp2
  rw [Lib.run_from_unsafe w ⟨b, 0, none⟩ Tryz.underlying133 Tryz.underlying172 hj hsh Tryz.Builder_Extra_169.liesBuilder]
  simp only [Result.andThen]
  rw [Oper.upon_value]
  go_wp2
  go_end0
  exact ⟨rfl, rfl⟩

theorem check_any (B b : Nat) (l : List UInt8) (w : World) (h : Bld B b l w) :
    Calls Tryz.prog 133 #[.pointer (some ⟨b, 0, none⟩)] w fun e w' => e = .returned (.tuple #[]) ∧ BldU B b l w' ∧ Below B w w' := by
  rcases h with h | h
  · refine (check_fresh b w h.cell0 h.shape h.frozen0).mono ?_
    rintro e w' ⟨rfl, rfl⟩
    exact ⟨rfl, h.used _, (Below.refl B w).setCell (p := ⟨b, 0, none⟩) h.1 _⟩
  · refine (check_used b w h.cell0).mono ?_
    rintro e w' ⟨rfl, rfl⟩
    exact ⟨rfl, h, Below.refl B _⟩

theorem new_cell (w1 : World) (x : Value) (t : TypeId) : ∀ j u, [x][j]? = some u → (w1.alloc (.cells #[x] t)).cell? ((⟨w1.heap.size, 0, none⟩ : Addr).add j) = some u := by
  intro j u hj
  match j, hj with
  | 0, hj => simp at hj; subst hj; simp [Addr.add]

set_option maxHeartbeats 2000000 in
set_option maxRecDepth 100000 in
theorem wbyte_any (B b : Nat) (l : List UInt8) (c : UInt8) (cn : Nat) (hcn : c.toNat = cn) (w : World) (h : Bld B b l w) (hlen : l.length + 1 ≤ 140737488355328) (hBw : B ≤ w.heap.size) :
    Calls Tryz.prog 102 #[.pointer (some ⟨b, 0, none⟩), .int .u8 cn] w fun e w' => e = .returned .nilIface ∧ Bld B b (l ++ [c]) w' ∧ Below B w w' := by
  obtain ⟨i0, hi, hz0, hz1, hz2⟩ := info_parts info5
  go_enter Tryz.func102, Tryz.ntmps102
  go_wp2_with (go_at_call 133; refine (check_any B b l _ h).mono ?_)
  rintro e w1 ⟨rfl, h1, hb1⟩
  obtain ⟨hB, v, hbk, hown, hne⟩ := h1
  have hsz := hb1.size
  have hl : (Lib.byteCells l).length = l.length := Lib.byteCells_length l
  have c0 : w1.cell? ⟨b, 0, none⟩ = some (.pointer (some ⟨b, 0, none⟩)) := by rw [Lib.cell_of_heap hbk]; rfl
  have c1 : w1.cell? ⟨b, 1, none⟩ = some v := by rw [Lib.cell_of_heap hbk]; rfl
  go_wp2_with (at_builtin; refine wpList_append_own _ rfl _ _ 57 rfl B 5 i0 (.int .u8 0) 1 1 Tryz.underlying57 hi hz0 hz1 hz2 rfl (by decide) _ _ _ rfl (hown.alloc _) ⟨w1.heap.size, 0, none⟩ 1 1 [.int .u8 cn] rfl rfl (new_cell _ _ _) (by intro u hu; simp at hu; subst hu; rfl) (by rw [hl]; unfold maxLen; omega) (by rw [hl]; omega) (by simp; omega) ?_)
  intro v' w2 hown' hgrow _
  have hlt : b < w1.heap.size := (Array.getElem?_eq_some_iff.1 hbk).1
  have hb2 : w2.heap[b]? = some (.cells #[.pointer (some ⟨b, 0, none⟩), v] 174 (0, 0)) := by
    rw [hgrow.block b (by simp; omega) (fun e => hne e.symm), Lib.alloc_old w1 _ b hlt]
    exact hbk
  have d0 : w2.cell? ⟨b, 0, none⟩ = some (.pointer (some ⟨b, 0, none⟩)) := by rw [Lib.cell_of_heap hb2]; rfl
  have d1 : w2.cell? ⟨b, 1, none⟩ = some v := by rw [Lib.cell_of_heap hb2]; rfl
  have f1 : w2.frozen? ⟨b, 1, none⟩ = false := Lib.frozen_of_heap hb2 1
  obtain ⟨g, cap, rfl⟩ : ∃ g cap, v' = .slice (some ⟨g, 0, none⟩) (l.length + 1) cap := by
    rcases hown'.2 with ⟨_, h0⟩ | ⟨g, cap, cur, hv, _⟩
    · omega
    · exact ⟨g, cap, hv⟩
  go_wp2
  go_ret
  have e1 : Lib.byteCells (l ++ [c]) = Lib.byteCells l ++ [.int .u8 cn] := by rw [← hcn]; simp [Lib.byteCells]
  refine ⟨rfl, .inr ?_, ?_⟩
  · rw [e1]; exact Lib.BuilderAt.put (T := 174) (e := 5) hB hb2 (bs' := Lib.byteCells l ++ [.int .u8 cn]) (by simpa [hl] using hown') (by decide)
  · exact ((hb1.alloc (by omega) _).grown hgrow (by simp; omega) (fun k hk => (hown.lt k hk).1)).setCell (p := ⟨b, 1, none⟩) hB _

set_option maxHeartbeats 2000000 in
set_option maxRecDepth 100000 in
theorem write_any (B b : Nat) (l : List UInt8) (s : ByteArray) (w : World) (h : Bld B b l w) (hlen : l.length + s.size ≤ 140737488355328) (hBw : B ≤ w.heap.size) :
    Calls Tryz.prog 103 #[.pointer (some ⟨b, 0, none⟩), .string s] w fun e w' => e = .returned (.tuple #[.int .i64 s.size, .nilIface]) ∧ Bld B b (l ++ tl s) w' ∧ Below B w w' := by
  obtain ⟨i0, hi, hz0, hz1, hz2⟩ := info_parts info5
  go_enter Tryz.func103, Tryz.ntmps103
  go_wp2_with (go_at_call 133; refine (check_any B b l _ h).mono ?_)
  rintro e w1 ⟨rfl, h1, hb1⟩
  obtain ⟨hB, v, hbk, hown, hne⟩ := h1
  have hsz := hb1.size
  have hl : (Lib.byteCells l).length = l.length := Lib.byteCells_length l
  have c0 : w1.cell? ⟨b, 0, none⟩ = some (.pointer (some ⟨b, 0, none⟩)) := by rw [Lib.cell_of_heap hbk]; rfl
  have c1 : w1.cell? ⟨b, 1, none⟩ = some v := by rw [Lib.cell_of_heap hbk]; rfl
  go_wp2_with (at_builtin; refine Lib.wpList_append_own_string _ rfl _ _ 57 9 rfl B 5 i0 Tryz.underlying57 Tryz.underlying9 hi hz0 hz1 hz2 _ _ _ rfl hown s rfl (by rw [hl]; unfold maxLen; omega) (by rw [hl]; omega) (by omega) ?_)
  intro v' w2 hown' hgrow _
  have hlt : b < w1.heap.size := (Array.getElem?_eq_some_iff.1 hbk).1
  have hb2 : w2.heap[b]? = some (.cells #[.pointer (some ⟨b, 0, none⟩), v] 174 (0, 0)) := by
    rw [hgrow.block b hlt (fun e => hne e.symm)]
    exact hbk
  have d0 : w2.cell? ⟨b, 0, none⟩ = some (.pointer (some ⟨b, 0, none⟩)) := by rw [Lib.cell_of_heap hb2]; rfl
  have d1 : w2.cell? ⟨b, 1, none⟩ = some v := by rw [Lib.cell_of_heap hb2]; rfl
  have f1 : w2.frozen? ⟨b, 1, none⟩ = false := Lib.frozen_of_heap hb2 1
  obtain ⟨ao, n', cap, rfl⟩ : ∃ ao n' cap, v' = .slice ao n' cap := by
    rcases hown'.2 with ⟨hv, _⟩ | ⟨g, cap, cur, hv, _⟩
    · exact ⟨_, _, _, hv⟩
    · exact ⟨_, _, _, hv⟩
  go_wp2
  go_ret2
  have e1 : Lib.byteCells (l ++ tl s) = Lib.byteCells l ++ Lib.strCells s := by simp [Lib.byteCells, Lib.strCells, tl]
  refine ⟨rfl, .inr ?_, ?_⟩
  · rw [e1]; exact Lib.BuilderAt.put (T := 174) (e := 5) hB hb2 (bs' := Lib.byteCells l ++ Lib.strCells s) (by simpa [Lib.strCells_length, hl] using hown') (by decide)
  · exact (hb1.grown hgrow (by omega) (fun k hk => (hown.lt k hk).1)).setCell (p := ⟨b, 1, none⟩) hB _

theorem string_any (B b : Nat) (l : List UInt8) (w : World) (h : Bld B b l w) (hBw : B ≤ w.heap.size) :
    Calls Tryz.prog 104 #[.pointer (some ⟨b, 0, none⟩)] w fun e w' => e = .returned (.string (mk l)) ∧ Below B w w' :=
  Tryz.Builder_String_any B b l w h hBw
theorem clone_any (s : ByteArray) (w : World) (hlim : s.size ≤ 281474976710656) :
    Calls Tryz.prog 30 #[.string s] w fun e w' => e = .returned (.string s) ∧ Below w.heap.size w w' := by
  go_enter Tryz.func30, Tryz.ntmps30
  go_wp2_with (go_at_call 60; refine (Tryz.stringslite_Clone _ _ hlim).mono ?_; rintro e w' ⟨rfl, hb⟩)
  go_ret
  exact ⟨rfl, hb⟩
end Go.Proofs.YtabmnkddmdffkaaGreatDoor
namespace Go.Proofs.YtabmnkddmdffkaaGreatDoor
open Go.RowKit Go.Shelf

abbrev sv (x : List UInt8) : Value := .string (mk x)
/-- a row of this call's own that holds the names K -/
abbrev Row (W : World) (base : Nat) (v : Value) (K : List (List UInt8)) : Prop := W.ownsRow base 9 1 v K.length (K.map sv)
/-- the slice v holds the names K, in a block that there is -/
def Strs (W : World) (v : Value) (K : List (List UInt8)) : Prop :=
  (v = .slice none 0 0 ∧ K = []) ∨ ∃ b off cap, v = .slice (some ⟨b, off, none⟩) K.length cap ∧ K.length ≤ cap ∧ cap ≤ maxLen ∧ b < W.heap.size ∧ ∀ j, j < K.length → W.cell? ⟨b, off + j, none⟩ = some (sv (K.getD j []))
theorem Strs.below {W W' : World} {v : Value} {L : List (List UInt8)} (h : Strs W v L) (hb : Below W.heap.size W W') : Strs W' v L := by
  rcases h with h | ⟨b, off, cap, e, h1, h2, h3, h4⟩
  · exact .inl h
  · exact .inr ⟨b, off, cap, e, h1, h2, Nat.lt_of_lt_of_le h3 hb.size, fun j hj => (hb.cell (p := ⟨b, off + j, none⟩) h3).trans (h4 j hj)⟩
theorem Strs.of_row {W : World} {base : Nat} {v : Value} {L : List (List UInt8)} (h : Row W base v L) : Strs W v L := by
  rcases h.2 with ⟨rfl, h0⟩ | ⟨g, cap, cur, rfl, hg, hgb, h1, h2, h3, h4⟩
  · exact .inl ⟨rfl, List.length_eq_zero_iff.1 h0⟩
  · refine .inr ⟨g, 0, cap, rfl, h1, h2, (Array.getElem?_eq_some_iff.1 hgb).1, fun j hj => ?_⟩
    have hj' : (L.map sv)[j]? = some (sv (L.getD j [])) := by
      rw [List.getElem?_map, List.getD_eq_getElem?_getD, List.getElem?_eq_getElem hj]; rfl
    rw [← h4, List.getElem?_take_of_lt (by omega)] at hj'
    simp only [World.cell?, hgb, Nat.zero_add]
    simpa using hj'

theorem sl_next (K : List (List UInt8)) (k : Nat) (h : k < K.length) : sl true (K.take (k + 1)) = sl true (K.take k) ++ ((if k = 0 then [] else [47]) ++ K.getD k []) := by
  rw [List.take_succ_eq_append_getElem h, sl_append, List.getD_eq_getElem?_getD, List.getElem?_eq_getElem h]
  have e : (K.take k).isEmpty = decide (k = 0) := by
    cases k with
    | zero => simp
    | succ k => cases K with
      | nil => simp at h
      | cons _ _ => simp
  rw [e]
  by_cases hk : k = 0 <;> simp [sl, hk]
theorem tw_take (K : List (List UInt8)) (k : Nat) : tw (K.take k) ≤ tw K := by
  conv => rhs; rw [← List.take_append_drop k K, tw_append]
  omega
theorem sl_take_len (K : List (List UInt8)) (k : Nat) : (sl true (K.take k)).length ≤ tw K := Nat.le_trans (sl_tw _ _) (tw_take K k)

set_option maxRecDepth 100000 in
set_option maxHeartbeats 1000000 in
theorem join_some (K : List (List UInt8)) (b off cap : Nat) (w : World) (hb : b < w.heap.size) (hc : ∀ j, j < K.length → w.cell? ⟨b, off + j, none⟩ = some (sv (K.getD j [])))
    (hj : tw K ≤ 1000000) :
    Calls Tryz.prog 74 #[.slice (some ⟨b, off, none⟩) K.length cap] w fun e w' => e = .returned (.string (mk (sl true K))) ∧ Below w.heap.size w w' := by
  have hl : K.length ≤ 1000000 := Nat.le_trans (len_tw K) hj
  have hb0 := Lib.fresh_isBuilder 174 5 w
  have HC := hide' hc
  clear hc
  go_enter Tryz.func74, Tryz.ntmps74
  go_wp2
  go_loopw [8] (fun i wr => ∃ k : Nat, k ≤ K.length ∧ i = .int .i64 k ∧ Bld w.heap.size w.heap.size (sl true (K.take k)) wr ∧ Below w.heap.size w wr) (fun i _ => K.length - (intOf i).toNat)
  case atStart => exact ⟨0, Nat.zero_le _, rfl, hb0, (Below.refl _ w).alloc (Nat.le_refl _) _⟩
  case round =>
    obtain ⟨k, hk, rfl, hbl, hB⟩ := hrel
    have hsz := hB.size
    by_cases hlt : k < K.length
    · have c1 := (hB.cell (p := ⟨b, off + k, none⟩) hb).trans (HC.out k hlt)
      have hnx := sl_next K k hlt
      have hle := Nat.le_trans (sl_take_len K (k + 1)) hj
      generalize K.getD k [] = x at c1 hnx
      by_cases h0 : k = 0
      · rw [if_pos h0, List.nil_append] at hnx
        have hln : (sl true (K.take k)).length + (mk x).size ≤ 140737488355328 := by rw [hnx, List.length_append] at hle; rw [mk_size]; omega
        have HN := hide' hnx
        clear hnx hle
        subst h0
        rw [Nat.add_zero] at c1
        generalize sl true (K.take 0) = P0 at hbl hln HN
        go_wp2_with (go_at_call 103; refine (write_any _ _ _ _ _ hbl hln hsz).mono ?_; rintro e w2 ⟨rfl, hb2, hB2⟩)
        exact ⟨⟨1, by omega, by go_num, by rw [HN.out, ← tl_mk x]; exact hb2, hB.trans hB2⟩, by simp [intOf]; omega⟩
      · rw [if_neg h0, ← List.append_assoc] at hnx
        have hln : ((sl true (K.take k)) ++ [47]).length + (mk x).size ≤ 140737488355328 := by rw [hnx, List.length_append] at hle; rw [mk_size]; omega
        have hln0 : (sl true (K.take k)).length + 1 ≤ 140737488355328 := by rw [List.length_append] at hln; simp at hln; omega
        have HN := hide' hnx
        have d0 : (0 : Int) < k := by omega
        clear hnx hle
        go_wp2_with fail
        refine (wbyte_any _ _ _ 47 47 rfl _ hbl hln0 hsz).mono ?_
        rintro e w2 ⟨rfl, hb2, hB2⟩
        go_wp2_with fail
        refine (write_any _ _ _ _ _ hb2 hln (Nat.le_trans hsz hB2.size)).mono ?_
        rintro e w3 ⟨rfl, hb3, hB3⟩
        go_wp2
        exact ⟨⟨k + 1, by omega, by go_num, by rw [HN.out, ← tl_mk x]; exact hb3, (hB.trans hB2).trans hB3⟩, by simp [intOf]; omega⟩
    · have hke : K.take k = K := List.take_of_length_le (by omega)
      rw [hke] at hbl
      clear hke
      go_wp2_with (go_at_call 104; refine (string_any _ _ _ _ hbl hsz).mono ?_; rintro e w2 ⟨rfl, hB2⟩)
      go_ret
      exact ⟨rfl, hB.trans hB2⟩

theorem join_nil (a : Option Addr) (cap : Nat) (w : World) :
    Calls Tryz.prog 74 #[.slice a 0 cap] w fun e w' => e = .returned (.string (mk [])) ∧ Below w.heap.size w w' := by
  have hb0 := Lib.fresh_isBuilder 174 5 w
  go_enter Tryz.func74, Tryz.ntmps74
  go_wp2
  go_loopw [8] (fun i wr => i = .int .i64 0 ∧ Bld w.heap.size w.heap.size [] wr ∧ Below w.heap.size w wr) (fun _ _ => 0)
  case atStart => exact ⟨rfl, hb0, (Below.refl _ w).alloc (Nat.le_refl _) _⟩
  case round =>
    obtain ⟨rfl, hbl, hB⟩ := hrel
    have hsz := hB.size
    go_wp2_with (go_at_call 104; refine (string_any _ _ _ _ hbl hsz).mono ?_; rintro e w2 ⟨rfl, hB2⟩)
    go_ret
    exact ⟨rfl, hB.trans hB2⟩

theorem join_any (K : List (List UInt8)) (v : Value) (w : World) (h : Strs w v K) (hj : tw K ≤ 1000000) :
    Calls Tryz.prog 74 #[v] w fun e w' => e = .returned (.string (mk (sl true K))) ∧ Below w.heap.size w w' := by
  rcases h with ⟨rfl, rfl⟩ | ⟨b, off, cap, rfl, h1, h2, h3, h4⟩
  · exact join_nil none 0 w
  · exact join_some K b off cap w h3 h4 hj
end Go.Proofs.YtabmnkddmdffkaaGreatDoor
