/- The contracts of rule.ends, rule.begins, rule.lastEnd, and of rule.Group and rule.grouped at words without brackets. -/
import Derived.Test.YthkjinhnnilalaaGreatDoorRow
import Derived.Test.YthkjinhnnilalaaGreatDoorXSplit
namespace Go.Proofs.YthkjinhnnilalaaGreatDoor
open Go.RowKit Go.Shelf

theorem ends_any (x : ByteArray) (hx : x.size ≤ 1000000) (w : World) : Calls Tryz.prog 41 #[.string x] w fun e w' => e = .returned (.bool (Lib.hasSuffix (tl x) [41])) ∧ w' = w := by
  have q : ∀ w, Calls Tryz.prog 59 #[.string x, .string ⟨#[41]⟩] w fun e w' => e = .returned (.bool (Lib.hasSuffix (tl x) [41])) ∧ w' = w := fun w => Tryz.strings_HasSuffix x ⟨#[41]⟩ w (by omega)
  generalize Lib.hasSuffix (tl x) [41] = r at q
  go_enter Tryz.func41, Tryz.ntmps41
  go_wp2_with (go_at_call 59; refine (q _).mono ?_; rintro e w1 ⟨rfl, rfl⟩)
  go_ret
  exact ⟨rfl, rfl⟩
/-- no bracket -/
def nbr (l : Bs) : Prop := Lib.indexByte l 40 = -1
theorem begins_no (x : ByteArray) (h : nbr (tl x)) (w : World) : Calls Tryz.prog 21 #[.string x] w fun e w' => e = .returned (.bool false) ∧ w' = w := by
  have q : ∀ w, Calls Tryz.prog 42 #[.string x, .int .u8 40] w fun e w' => e = .returned (.int .i64 (-1)) ∧ w' = w := fun w => by
    have := Tryz.strings_IndexByte x 40 w
    rw [show Lib.indexByte x.data.toList (40 : Int).toNat.toUInt8 = -1 from h] at this
    exact this
  go_enter Tryz.func21, Tryz.ntmps21
  go_wp2_with (go_at_call 42; refine (q _).mono ?_; rintro e w1 ⟨rfl, rfl⟩)
  go_ret
  exact ⟨rfl, rfl⟩
/-- the last of the first k words that ends a row -/
def lstL (L : List ByteArray) : Nat → Int
  | 0 => -1
  | k + 1 => if Lib.hasSuffix (tl (L.getD k ⟨#[]⟩)) [41] then (k : Int) else lstL L k
theorem lstL_lt (L : List ByteArray) : ∀ k : Nat, -1 ≤ lstL L k ∧ lstL L k < k
  | 0 => by simp [lstL]
  | k + 1 => by
    have := lstL_lt L k
    unfold lstL
    split <;> omega
set_option maxHeartbeats 1000000 in
theorem last_some (L : List ByteArray) (b off cap : Nat) (w : World) (hl : L.length ≤ 100000) (hs : ∀ x ∈ L, x.size ≤ 1000000) (hc : ∀ j, j < L.length → w.cell? ⟨b, off + j, none⟩ = some (.string (L.getD j ⟨#[]⟩))) :
    Calls Tryz.prog 20 #[.slice (some ⟨b, off, none⟩) L.length cap] w fun e w' => e = .returned (.int .i64 (lstL L L.length)) ∧ w' = w := by
  obtain ⟨R, hR⟩ : ∃ R, R = lstL L L.length := ⟨_, rfl⟩
  have HR := hide' hR
  rw [← hR]
  clear hR
  have hw0 : IntKind.i64.wrap ((L.length : Int) - 1) = (L.length : Int) - 1 := i64_id _ ⟨by omega, by omega⟩
  go_enter Tryz.func20, Tryz.ntmps20
  go_wp2
  go_loop [3] (fun i => ∃ k : Nat, k ≤ L.length ∧ i = .int .i64 ((k : Int) - 1) ∧ Hid (lstL L k = R)) (fun i => (intOf i + 1).toNat)
  case atStart => exact ⟨L.length, Nat.le_refl _, rfl, HR.out.symm⟩
  case round =>
    clear HR hw0
    obtain ⟨k, hk, rfl, HI⟩ := hrel
    cases k with
    | zero =>
      have HF : Hid (R = -1) := HI.out.symm
      clear HI
      go_wp2
      go_ret
      rw [HF.out]
      exact ⟨rfl, rfl⟩
    | succ k =>
      have hlt : k < L.length := by omega
      have c1 := hc k hlt
      have hx : (L.getD k ⟨#[]⟩).size ≤ 1000000 := hs _ (by rw [List.getD_eq_getElem?_getD, List.getElem?_eq_getElem hlt]; exact List.getElem_mem hlt)
      have hst : lstL L (k + 1) = if Lib.hasSuffix (tl (L.getD k ⟨#[]⟩)) [41] then (k : Int) else lstL L k := rfl
      have kE := fun w => ends_any (L.getD k ⟨#[]⟩) hx w
      generalize L.getD k ⟨#[]⟩ = x at c1 hx hst kE
      have ek : (((k + 1 : Nat) : Int) - 1) = (k : Int) := by omega
      rw [ek]
      have hw1 : IntKind.i64.wrap ((k : Int) - 1) = (k : Int) - 1 := i64_id _ ⟨by omega, by omega⟩
      have HC := hide' hc
      have HS := hide' hs
      clear hc hs ek
      cases hb : Lib.hasSuffix (tl x) [41] with
      | true =>
        rw [hb] at kE hst
        have HF : Hid (R = (k : Int)) := by
          show _ = _
          rw [← HI.out, hst]
          rfl
        clear HI hst hb
        go_wp2_with (go_at_call 41; refine (kE _).mono ?_; rintro e w1 ⟨rfl, rfl⟩)
        go_ret
        rw [HF.out]
        exact ⟨rfl, rfl⟩
      | false =>
        rw [hb] at kE hst
        have HF : Hid (lstL L k = R) := by
          show _ = _
          rw [← HI.out, hst]
          rfl
        clear HI hst hb
        go_wp2_with (go_at_call 41; refine (kE _).mono ?_; rintro e w1 ⟨rfl, rfl⟩)
        exact ⟨⟨k, by omega, rfl, HF⟩, by simp [intOf]⟩
theorem last_nil (a : Option Addr) (cap : Nat) (w : World) : Calls Tryz.prog 20 #[.slice a 0 cap] w fun e w' => e = .returned (.int .i64 (-1)) ∧ w' = w := by
  go_enter Tryz.func20, Tryz.ntmps20
  go_wp2
  go_loop [3] (fun i => i = .int .i64 (-1)) (fun _ => 0)
  case atStart => rfl
  case round =>
    subst hrel
    go_wp2
    go_ret
    exact ⟨rfl, rfl⟩
set_option maxRecDepth 100000 in
set_option maxHeartbeats 2000000 in
/-- Group, of words without brackets -/
theorem grp_some (L : List ByteArray) (b off cap : Nat) (w : World) (hl : L.length ≤ 100000) (hb : b < w.heap.size) (hs : ∀ x ∈ L, x.size ≤ 1000000 ∧ nbr (tl x)) (hc : ∀ j, j < L.length → w.cell? ⟨b, off + j, none⟩ = some (.string (L.getD j ⟨#[]⟩))) :
    Calls Tryz.prog 10 #[.slice (some ⟨b, off, none⟩) L.length cap] w fun e w' => ∃ v, e = .returned v ∧ w'.ownsRow w.heap.size 9 1 v L.length (L.map Value.string) ∧ Below w.heap.size w w' := by
  obtain ⟨i0, hi, hz0, hz1, hz2⟩ := info_parts info9
  have kL := last_some L b off cap w hl (fun x hx => (hs x hx).1) hc
  generalize lstL L L.length = r at kL
  go_enter Tryz.func10, Tryz.ntmps10
  go_wp2_with (go_at_call 20; refine kL.mono ?_; rintro e w1 ⟨rfl, rfl⟩)
  clear kL
  go_loopw [13, 3, 4] (fun i l a wr => ∃ k : Nat, k ≤ L.length ∧ i = .int .i64 k ∧ a = .string ⟨#[]⟩ ∧ wr.ownsRow w1.heap.size 9 1 l k ((L.take k).map Value.string) ∧ Below w1.heap.size w1 wr) (fun i _ _ _ => L.length - (intOf i).toNat)
  case atStart => exact ⟨0, Nat.zero_le _, rfl, rfl, World.ownsRow_nil _ _ _ _, Below.refl _ _⟩
  case round =>
    obtain ⟨k, hk, rfl, rfl, hrow, hB⟩ := hrel
    obtain ⟨a1, c1, rfl⟩ := row_form hrow
    by_cases hlt : k < L.length
    · have cc := (hB.cell (p := ⟨b, off + k, none⟩) hb).trans (hc k hlt)
      have hx := hs (L.getD k ⟨#[]⟩) (by rw [List.getD_eq_getElem?_getD, List.getElem?_eq_getElem hlt]; exact List.getElem_mem hlt)
      have HT : Hid ((L.take k).map Value.string ++ [.string (L.getD k ⟨#[]⟩)] = (L.take (k + 1)).map Value.string) := by
        show _ = _
        rw [List.take_succ_eq_append_getElem hlt, List.map_append, List.getD_eq_getElem?_getD, List.getElem?_eq_getElem hlt]
        rfl
      generalize L.getD k ⟨#[]⟩ = x at cc hx HT
      have kB := fun w => begins_no x hx.2 w
      have kN := fun w => Tx.clone_any x w (by omega)
      have hsz := hB.size
      have hpb : k + 1 ≤ maxLen := by unfold maxLen; omega
      have hbb : (k + 1) * 16 ≤ 140737488355328 := by omega
      have HC := hide' hc
      have HS := hide' hs
      have HBB := hide' hb
      clear hc hs hb hx
      go_wp2_with fail
      go_step3
      go_wp2_with (first | (go_at_call 21; refine (kB _).mono ?_; rintro e w2 ⟨rfl, rfl⟩) | (go_at_call 19; refine (kN _).mono ?_; rintro e w3 ⟨rfl, hb3⟩; have hrow3 := own_below hrow hb3; have hs3 := hb3.size; have h2b : ∀ o, w1.heap.size ≤ (w3.alloc o).heap.size := fun o => by simp; omega) | (at_builtin; refine wpList_append_own _ rfl _ _ 22 rfl w1.heap.size 9 i0 (.string ⟨#[]⟩) 1 16 Tryz.underlying22 hi hz0 hz1 hz2 rfl (by decide) _ _ _ rfl (hrow3.alloc _) ⟨w3.heap.size, 0, none⟩ 1 1 [.string x] rfl rfl (cell_one_new _ _ _) (by simp [Value.oneCell']) hpb hbb (h2b _) ?_; intro v' w4 hown' hgrow hif; clear hif; obtain ⟨a2, c3, rfl⟩ := row_form hown'; have hB3 := hB.trans (hb3.mono hB.size); have hB4 := app_below hB3 (by omega) hrow3 hgrow; have HO := hide' hown'; clear hown' hgrow))
      simp only [Exit.noGoto, Exit.inBlock, Exit.then]
      go_wp2
      exact ⟨⟨k + 1, by omega, by go_num, rfl, by rw [← HT.out]; exact HO.out, hB4⟩, by simp [intOf]; omega⟩
    · have hke : L.take k = L := List.take_of_length_le (by omega)
      obtain rfl : k = L.length := by omega
      rw [hke] at hrow
      have HO := hide' hrow
      clear hrow hke hc hs
      go_wp2
      go_ret
      exact ⟨_, rfl, HO.out, hB⟩
/-- the words of a text -/
def wds (l : Bs) : List ByteArray := (Tx.words l).map mk
theorem wds_of {l : Bs} {L : List ByteArray} (h : L.map tl = Tx.words l) : L = wds l := by
  unfold wds
  rw [← h, List.map_map]
  have : (mk ∘ tl) = id := funext mk_tl
  rw [this, List.map_id]
theorem wds_len (l : Bs) : (wds l).length ≤ l.length := by unfold wds; rw [List.length_map]; exact Tx.words_len l
theorem wds_size (l : Bs) : ∀ x ∈ wds l, x.size ≤ l.length := by
  intro x hx
  unfold wds at hx
  obtain ⟨y, hy, rfl⟩ := List.mem_map.1 hx
  rw [mk_size]
  exact Tx.words_short l y hy
theorem encW_map (ys : List Tx.Wd) : ys.map Tx.encW = (ys.map (·.1)).map Value.string := by rw [List.map_map]; rfl
theorem split_wds (s : ByteArray) (hs : s.size ≤ 100000) (w : World) : Calls Tryz.prog 45 #[.string s] w fun e W' => ∃ v, e = .returned v ∧ Tx.Strs W' v (wds (tl s)) ∧ Below w.heap.size w W' := by
  refine (Tx.split_any s (by omega) w).mono ?_
  rintro e W' ⟨v, ys, rfl, h1, h2, h3⟩
  have hL : ys.map (·.1) = wds (tl s) := wds_of (by rw [List.map_map]; exact h1)
  rw [encW_map, hL, show ys.length = (wds (tl s)).length by rw [← hL, List.length_map]] at h2
  exact ⟨v, rfl, Tx.Strs.of_row h2, h3⟩
/-- a side's words, there being one, none with a bracket -/
theorem grouped_plain (s : ByteArray) (hs : s.size ≤ 100000) (hn : ∀ x ∈ wds (tl s), nbr (tl x)) (hne : wds (tl s) ≠ []) (w : World) : Calls Tryz.prog 26 #[.string s] w fun e w' => ∃ v, e = .returned v ∧ w'.ownsRow w.heap.size 9 1 v (wds (tl s)).length ((wds (tl s)).map Value.string) ∧ Below w.heap.size w w' := by
  have q := split_wds s hs w
  have hl := wds_len (tl s)
  have hz := wds_size (tl s)
  rw [tl_len] at hl hz
  have kG : Hid (∀ (v : Value) (W : World), Tx.Strs W v (wds (tl s)) → Calls Tryz.prog 10 #[v] W fun e w' => ∃ v', e = .returned v' ∧ w'.ownsRow W.heap.size 9 1 v' (wds (tl s)).length ((wds (tl s)).map Value.string) ∧ Below W.heap.size W w') := fun v W h => by
    rcases h with ⟨_, h0⟩ | ⟨b, off, cap, rfl, h1, h2, h3, h4⟩
    · exact absurd h0 hne
    · exact grp_some (wds (tl s)) b off cap W (by omega) h3 (fun x hx => ⟨by have := hz x hx; omega, hn x hx⟩) h4
  clear hn hne hl hz
  generalize wds (tl s) = L at q kG
  go_enter Tryz.func26, Tryz.ntmps26
  go_wp2_with fail
  refine q.mono ?_
  rintro e w1 ⟨v, rfl, hv, hb1⟩
  have k2 := kG.out v w1 hv
  clear kG q
  go_wp2_with fail
  refine k2.mono ?_
  rintro e w2 ⟨v2, rfl, hr2, hb2⟩
  have HR := hide' hr2
  clear hr2 hv k2
  go_wp2
  go_ret
  refine ⟨_, rfl, ?_, hb1.trans (hb2.mono hb1.size)⟩
  refine ⟨HR.out.1, ?_⟩
  rcases HR.out.2 with h | ⟨g, cap, cur, h1, h2, h3⟩
  · exact .inl h
  · exact .inr ⟨g, cap, cur, h1, Nat.le_trans hb1.size h2, h3⟩
end Go.Proofs.YthkjinhnnilalaaGreatDoor
