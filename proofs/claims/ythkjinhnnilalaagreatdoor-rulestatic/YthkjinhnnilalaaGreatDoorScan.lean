/- The contracts of refs.Scan, of anvilref1.Index and of anvilref10.Scan. -/
import Derived.Test.YthkjinhnnilalaaGreatDoorCl
namespace Go.Proofs.YthkjinhnnilalaaGreatDoor
open Go.RowKit

/-- a table of bytes -/
def tab (p : UInt8 → Bool) : Array Value := Array.ofFn (fun i : Fin 256 => Value.bool (p i.val.toUInt8))
theorem tab_size (p : UInt8 → Bool) : (tab p).size = 256 := by simp [tab]
theorem tab_at (p : UInt8 → Bool) (c : UInt8) : (tab p)[c.toNat]? = some (.bool (p c)) := by
  have h : c.toNat < 256 := UInt8.toNat_lt c
  rw [Array.getElem?_eq_getElem (by rw [tab_size]; exact h)]
  simp [tab]
theorem tab_set (p : UInt8 → Bool) (c : UInt8) (b : Bool) : (tab p).setIfInBounds c.toNat (.bool b) = tab (fun x => if x = c then b else p x) := by
  apply Array.ext
  · simp [tab_size]
  · intro i h1 h2
    rw [tab_size] at h2
    rw [Array.getElem_setIfInBounds (by rw [tab_size]; exact h2)]
    by_cases hi : c.toNat = i
    · subst hi
      simp [tab]
    · rw [if_neg hi]
      simp [tab]
      intro e
      exact absurd (by rw [← e]; simp) hi
theorem tab_none : Array.replicate 256 (.bool false) = tab (fun _ => false) := by
  apply Array.ext
  · simp [tab_size]
  · intro i h1 h2; simp [tab]
theorem info54 : (Tryz.prog.info? 63).map (fun i : TypeInfo => (i.zero, i.size, i.bytes)) = some (some (.agg (Array.replicate 256 (.bool false))), 256, 256) := by kernel_rfl
theorem zv54 (w : World) : (zeroValue 63).run Tryz.prog w = .ok (.agg (Array.replicate 256 (.bool false))) w := by
  obtain ⟨i, hi, hz0, hz1, hz2⟩ := info_parts info54
  simp [zeroValue, typeInfo, hi, hz0]
/-- a table in memory -/
def TabAt (w : World) (A : Nat) (p : UInt8 → Bool) : Prop := w.heap[A]? = some (.cells (tab p) 63 (0, 0))
theorem TabAt.cell {w : World} {A : Nat} {p : UInt8 → Bool} (h : TabAt w A p) (c : UInt8) : w.cell? ⟨A, c.toNat, none⟩ = some (.bool (p c)) := by
  unfold TabAt at h
  rw [Lib.cell_of_heap h]
  exact tab_at p c
theorem TabAt.fz {w : World} {A : Nat} {p : UInt8 → Bool} (h : TabAt w A p) (j : Nat) : w.frozen? ⟨A, j, none⟩ = false := Lib.frozen_of_heap h j
theorem TabAt.set {w : World} {A : Nat} {p : UInt8 → Bool} (h : TabAt w A p) (c : UInt8) (b : Bool) : TabAt (w.setCell ⟨A, c.toNat, none⟩ (.bool b)) A (fun x => if x = c then b else p x) := by
  unfold TabAt at *
  rw [set_block h, tab_set]
theorem TabAt.lt {w : World} {A : Nat} {p : UInt8 → Bool} (h : TabAt w A p) : A < w.heap.size := lt_of_block h
theorem lt_tl {s : ByteArray} {k : Nat} (h : k < s.size) : k < (tl s).length := by rw [tl_len]; exact h
theorem take_more (s : ByteArray) (k : Nat) (h : k < s.size) (x : UInt8) : ((tl s).take (k + 1)).contains x = if x = s[k] then true else ((tl s).take k).contains x := by
  have e : (tl s).take (k + 1) = (tl s).take k ++ [s[k]] := List.take_succ_eq_append_getElem (by rw [tl_len]; exact h)
  rw [e, List.contains_eq_mem, List.contains_eq_mem]
  by_cases hx : x = s[k]
  · rw [if_pos hx, hx]; simp
  · rw [if_neg hx]; simp only [List.mem_append, List.mem_singleton, hx, or_false]
set_option maxRecDepth 100000 in
set_option maxHeartbeats 4000000 in
theorem scan_any (s t : ByteArray) (hs : s.size ≤ 100000) (ht : t.size ≤ 100000) (w : World) :
    Calls Tryz.prog 31 #[.string s, .string t] w fun e w' => e = .returned (.int .i64 (clI (scn (tl t) (tl s) (s.size + 1) 0))) ∧ Below w.heap.size w w' := by
  obtain ⟨R, hR⟩ : ∃ R, R = scn (tl t) (tl s) (s.size + 1) 0 := ⟨_, rfl⟩
  have HR := hide' hR
  rw [← hR]
  clear hR
  have hz := zv54
  go_enter Tryz.func31, Tryz.ntmps31
  go_wp2
  go_loopw [12] (fun i wr => ∃ k : Nat, k ≤ t.size ∧ i = .int .i64 k ∧ TabAt wr w.heap.size (fun x => ((tl t).take k).contains x) ∧ Below w.heap.size w wr) (fun i _ => t.size - (intOf i).toNat)
  case atStart =>
    refine ⟨0, Nat.zero_le _, rfl, ?_, (Below.refl _ w).alloc (Nat.le_refl _) _⟩
    unfold TabAt
    rw [heap_alloc_new, tab_none]
    rfl
  case round =>
    obtain ⟨k, hk, rfl, hT, hB⟩ := hrel
    by_cases hlt : k < t.size
    · have hb := UInt8.toNat_lt t[k]
      have hb' : (t[k].toNat : Int) < 256 := by omega
      have c1 := hT.cell t[k]
      have f1 := hT.fz t[k].toNat
      have hT' := hT.set t[k] true
      have hB' := hB.setCell (p := ⟨w.heap.size, t[k].toNat, none⟩) (Nat.le_refl _) (.bool true)
      have e : (fun x => if x = t[k] then true else ((tl t).take k).contains x) = fun x => ((tl t).take (k + 1)).contains x := funext fun x => (take_more t k hlt x).symm
      rw [e] at hT'
      have HT := hide' hT'
      clear hT hT' e
      go_wp2
      exact ⟨⟨k + 1, by omega, by go_num, HT.out, hB'⟩, by simp [intOf]; omega⟩
    · obtain rfl : k = t.size := by omega
      have c1 : wr.cell? ⟨w.heap.size, 36, none⟩ = _ := hT.cell 36
      have f1 := hT.fz 36
      have hT' := hT.set 36 false
      have hB' : Below w.heap.size w (wr.setCell ⟨w.heap.size, 36, none⟩ (.bool false)) := hB.setCell (p := ⟨w.heap.size, 36, none⟩) (Nat.le_refl _) (.bool false)
      have e : (fun x : UInt8 => if x = 36 then false else ((tl t).take t.size).contains x) = stp (tl t) := funext fun x => by
        unfold stp
        rw [List.take_of_length_le (by rw [tl_len]; omega)]
        by_cases hx : x = 36 <;> simp [hx]
      rw [e] at hT'
      have hT2 : TabAt (wr.setCell ⟨w.heap.size, 36, none⟩ (.bool false)) w.heap.size (stp (tl t)) := hT'
      clear hT hT' e hB
      go_wp2
      generalize wr.setCell ⟨w.heap.size, 36, none⟩ (.bool false) = W at hT2 hB'
      go_loopw [7] (fun i wr => ∃ k f : Nat, k ≤ s.size ∧ s.size + 1 ≤ k + f ∧ i = .int .i64 k ∧ TabAt wr w.heap.size (stp (tl t)) ∧ Below w.heap.size w wr ∧ Hid (scn (tl t) (tl s) f k = R)) (fun i _ => s.size - (intOf i).toNat)
      case atStart => exact ⟨0, s.size + 1, Nat.zero_le _, by omega, rfl, hT2, hB', HR.out.symm⟩
      case round =>
        clear hT2 hB' c1 f1
        obtain ⟨k, f, hk, hf, rfl, hT, hB, HI⟩ := hrel
        by_cases hlt : k < s.size
        · obtain ⟨f, rfl⟩ : ∃ f', f = f' + 1 := ⟨f - 1, by omega⟩
          have hg := getD_at s k hlt
          have hbg := bg_lt (tl s) k (lt_tl hlt)
          rw [tl_len] at hbg
          have kB := fun w => begin_any s hs k hlt w
          have hb := UInt8.toNat_lt s[k]
          have hb' : (s[k].toNat : Int) < 256 := by omega
          by_cases h0 : (bg (tl s) k).1 = 0
          · rw [h0] at kB
            cases h1 : stp (tl t) s[k] with
            | true =>
              have HR' : Hid (R = some k) := by
                show _ = _
                rw [← HI.out, scn_yes _ _ _ _ (lt_tl hlt) h0 (by rw [hg]; exact h1)]
              have e1 : ∀ w1, Below wr.heap.size wr w1 → w1.cell? ⟨w.heap.size, s[k].toNat, none⟩ = some (.bool true) := fun w1 hb1 => by
                rw [← h1, ← hT.cell s[k]]
                exact hb1.cell (p := ⟨w.heap.size, s[k].toNat, none⟩) hT.lt
              clear HI h0 h1 hg hT
              go_wp2_with (go_at_call 51; refine (kB _).mono ?_; rintro e w1 ⟨rfl, hb1⟩; have e2 := e1 w1 hb1)
              go_ret
              rw [HR'.out]
              exact ⟨rfl, hB.trans (hb1.mono hB.size)⟩
            | false =>
              have HI' : Hid (scn (tl t) (tl s) f (bg (tl s) k).2 = R) := by
                show _ = _
                rw [← HI.out, scn_no _ _ _ _ (lt_tl hlt) (fun h => by rw [hg, h1] at h; cases h.2)]
              have e1 : ∀ w1, Below wr.heap.size wr w1 → w1.cell? ⟨w.heap.size, s[k].toNat, none⟩ = some (.bool false) := fun w1 hb1 => by
                rw [← h1, ← hT.cell s[k]]
                exact hb1.cell (p := ⟨w.heap.size, s[k].toNat, none⟩) hT.lt
              generalize (bg (tl s) k).2 = b at kB HI' hbg
              clear HI h0 h1 hg
              go_wp2_with (go_at_call 51; refine (kB _).mono ?_; rintro e w1 ⟨rfl, hb1⟩; have e2 := e1 w1 hb1)
              exact ⟨⟨b, f, by omega, by omega, rfl, (hb1.block _ hT.lt).trans hT, hB.trans (hb1.mono hB.size), HI'⟩, by simp [intOf]; omega⟩
          · have HI' : Hid (scn (tl t) (tl s) f (bg (tl s) k).2 = R) := by
              show _ = _
              rw [← HI.out, scn_no _ _ _ _ (lt_tl hlt) (fun h => h0 h.1)]
            have d0 : (((bg (tl s) k).1 : Int) == 0) = false := beq_eq_false_iff_ne.2 (by omega)
            generalize (bg (tl s) k).2 = b at kB HI' hbg
            generalize (bg (tl s) k).1 = sg at kB d0
            clear HI h0 hg
            go_wp2_with (go_at_call 51; refine (kB _).mono ?_; rintro e w1 ⟨rfl, hb1⟩)
            exact ⟨⟨b, f, by omega, by omega, rfl, (hb1.block _ hT.lt).trans hT, hB.trans (hb1.mono hB.size), HI'⟩, by simp [intOf]; omega⟩
        · have HR' : Hid (R = none) := by
            show _ = _
            rw [← HI.out, scn_past _ _ _ _ (by rw [tl_len]; omega)]
          clear HI hT
          go_wp2
          go_ret
          rw [HR'.out]
          exact ⟨rfl, hB⟩
end Go.Proofs.YthkjinhnnilalaaGreatDoor
