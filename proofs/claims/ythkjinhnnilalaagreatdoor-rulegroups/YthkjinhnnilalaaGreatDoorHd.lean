/- Heads of lines in memory; the contracts of rule.pastBlanks, rule.separator and rule.modified. -/
import Derived.Test.YthkjinhnnilalaaGreatDoorMem
import Derived.Test.YthkjinhnnilalaaGreatDoorXTrim
import Derived.Test.YthkjinhnnilalaaGreatDoorTr
namespace Go.Proofs.YthkjinhnnilalaaGreatDoor
open Go.RowKit Go.Shelf

def Bx8 (w : World) (b : Nat) (k : Int) (l r n c : ByteArray) (s : Int) (d h : Bool) : Prop := w.heap[b]? = some (.cells #[.int .i64 k, .string l, .string r, .string n, .string c, .int .i64 s, .bool d, .bool h] 36 (0, 0))
section
variable {w : World} {b : Nat} {k s : Int} {l r n c : ByteArray} {d h : Bool}
theorem Bx8.c0 (x : Bx8 w b k l r n c s d h) : w.cell? ⟨b, 0, none⟩ = some (.int .i64 k) := by unfold Bx8 at x; rw [Lib.cell_of_heap x]; rfl
theorem Bx8.c1 (x : Bx8 w b k l r n c s d h) : w.cell? ⟨b, 1, none⟩ = some (.string l) := by unfold Bx8 at x; rw [Lib.cell_of_heap x]; rfl
theorem Bx8.c2 (x : Bx8 w b k l r n c s d h) : w.cell? ⟨b, 2, none⟩ = some (.string r) := by unfold Bx8 at x; rw [Lib.cell_of_heap x]; rfl
theorem Bx8.c3 (x : Bx8 w b k l r n c s d h) : w.cell? ⟨b, 3, none⟩ = some (.string n) := by unfold Bx8 at x; rw [Lib.cell_of_heap x]; rfl
theorem Bx8.c4 (x : Bx8 w b k l r n c s d h) : w.cell? ⟨b, 4, none⟩ = some (.string c) := by unfold Bx8 at x; rw [Lib.cell_of_heap x]; rfl
theorem Bx8.c5 (x : Bx8 w b k l r n c s d h) : w.cell? ⟨b, 5, none⟩ = some (.int .i64 s) := by unfold Bx8 at x; rw [Lib.cell_of_heap x]; rfl
theorem Bx8.c6 (x : Bx8 w b k l r n c s d h) : w.cell? ⟨b, 6, none⟩ = some (.bool d) := by unfold Bx8 at x; rw [Lib.cell_of_heap x]; rfl
theorem Bx8.c7 (x : Bx8 w b k l r n c s d h) : w.cell? ⟨b, 7, none⟩ = some (.bool h) := by unfold Bx8 at x; rw [Lib.cell_of_heap x]; rfl
theorem Bx8.fz (x : Bx8 w b k l r n c s d h) (j : Nat) : w.frozen? ⟨b, j, none⟩ = false := Lib.frozen_of_heap x j
theorem Bx8.lt (x : Bx8 w b k l r n c s d h) : b < w.heap.size := lt_of_block x
theorem Bx8.below {w' : World} (x : Bx8 w b k l r n c s d h) (hb : Below w.heap.size w w') : Bx8 w' b k l r n c s d h := (hb.block b x.lt).trans x
theorem Bx8.alloc (x : Bx8 w b k l r n c s d h) (o : Obj) : Bx8 (w.alloc o) b k l r n c s d h := x.below ((Below.refl _ w).alloc (Nat.le_refl _) o)
theorem Bx8.drew (x : Bx8 w b k l r n c s d h) : Bx8 w.drew b k l r n c s d h := x
theorem Bx8.drewN (x : Bx8 w b k l r n c s d h) (q : Nat) : Bx8 (w.drewN q) b k l r n c s d h := x
end
/-- a head is stored -/
abbrev put8 (W : World) (b : Nat) (k : Int) (l r n c : ByteArray) (s : Int) (d h : Bool) : World := (((((((W.setCell ⟨b, 0, none⟩ (.int .i64 k)).setCell ⟨b, 1, none⟩ (.string l)).setCell ⟨b, 2, none⟩ (.string r)).setCell ⟨b, 3, none⟩ (.string n)).setCell ⟨b, 4, none⟩ (.string c)).setCell ⟨b, 5, none⟩ (.int .i64 s)).setCell ⟨b, 6, none⟩ (.bool d)).setCell ⟨b, 7, none⟩ (.bool h)
theorem Bx8.set {w : World} {b : Nat} {k s k' s' : Int} {l r n c l' r' n' c' : ByteArray} {d h d' h' : Bool} (x : Bx8 w b k l r n c s d h) : Bx8 (put8 w b k' l' r' n' c' s' d' h') b k' l' r' n' c' s' d' h' := by
  unfold Bx8 at x
  have h0 := set_block x 0 (.int .i64 k')
  have h1 := set_block h0 1 (.string l')
  have h2 := set_block h1 2 (.string r')
  have h3 := set_block h2 3 (.string n')
  have h4 := set_block h3 4 (.string c')
  have h5 := set_block h4 5 (.int .i64 s')
  have h6 := set_block h5 6 (.bool d')
  have h7 := set_block h6 7 (.bool h')
  exact h7.trans (by simp)
theorem put8_below {B : Nat} {w W : World} (h0 : Below B w W) {b : Nat} (hb : B ≤ b) (k : Int) (l r n c : ByteArray) (s : Int) (d h : Bool) : Below B w (put8 W b k l r n c s d h) :=
  (((((((h0.setCell hb _).setCell hb _).setCell hb _).setCell hb _).setCell hb _).setCell hb _).setCell hb _).setCell hb _
theorem bx8_new (w : World) : Bx8 (w.alloc (.cells #[.int .i64 0, .string ⟨#[]⟩, .string ⟨#[]⟩, .string ⟨#[]⟩, .string ⟨#[]⟩, .int .i64 0, .bool false, .bool false] 36)) w.heap.size 0 ⟨#[]⟩ ⟨#[]⟩ ⟨#[]⟩ ⟨#[]⟩ 0 false false := heap_alloc_new w _
theorem bx8_at (w : World) (k : Int) (l r n c : ByteArray) (s : Int) (d h : Bool) : Bx8 (w.alloc (.cells #[.int .i64 k, .string l, .string r, .string n, .string c, .int .i64 s, .bool d, .bool h] 36)) w.heap.size k l r n c s d h := heap_alloc_new w _
/-- blanks at the beginning go -/
def pb (s : ByteArray) : ByteArray := mk ((tl s).dropWhile bl)
theorem pb_size (s : ByteArray) : (pb s).size ≤ s.size := by
  unfold pb
  rw [mk_size, ← tl_len s]
  exact (List.dropWhile_suffix bl).length_le
theorem trimmed_size (s : ByteArray) : (Tx.trimmed s).size ≤ s.size := by
  unfold Tx.trimmed
  rw [ByteArray.size_extract]
  omega
theorem past_any (s : ByteArray) (hs : s.size ≤ 1000000) (w : World) : Calls Tryz.prog 53 #[.string s] w fun e w' => e = .returned (.string (pb s)) ∧ Below w.heap.size w w' := by
  have k1 := fun w => trimL_any s w
  have hp := pb_size s
  have k2 := fun w => Tx.clone_any (pb s) w (by omega)
  have e : mk ((tl s).dropWhile bl) = pb s := rfl
  rw [e] at k1
  generalize pb s = x at k1 k2
  clear e hp
  go_enter Tryz.func53, Tryz.ntmps53
  go_wp2_with (first | (go_at_call 18; refine (k1 _).mono ?_; rintro e w1 ⟨rfl, hb1⟩) | (go_at_call 19; refine (k2 _).mono ?_; rintro e w2 ⟨rfl, hb2⟩))
  go_ret
  exact ⟨rfl, hb1.trans (hb2.mono hb1.size)⟩
/-- a separator at the beginning: its size, and is it one of := and ::= ? -/
def sepP (l : Bs) : Nat × Bool :=
  if Lib.hasPrefix l [58, 58, 61] then (3, true) else if Lib.hasPrefix l [58, 61] then (2, true) else if Lib.hasPrefix l [61] then (1, false) else if Lib.hasPrefix l [58, 58] then (2, false) else (1, false)
set_option maxHeartbeats 1000000 in
theorem sep_any (s : ByteArray) (w : World) : Calls Tryz.prog 32 #[.string s] w fun e w' => e = .returned (.tuple #[.int .i64 ((sepP (tl s)).1 : Nat), .bool (sepP (tl s)).2]) ∧ w' = w := by
  have q1 : ∀ w, Calls Tryz.prog 17 #[.string s, .string ⟨#[58, 58, 61]⟩] w fun e w' => e = .returned (.bool (Lib.hasPrefix (tl s) [58, 58, 61])) ∧ w' = w := fun w => Tryz.strings_HasPrefix s ⟨#[58, 58, 61]⟩ w
  have q2 : ∀ w, Calls Tryz.prog 17 #[.string s, .string ⟨#[58, 61]⟩] w fun e w' => e = .returned (.bool (Lib.hasPrefix (tl s) [58, 61])) ∧ w' = w := fun w => Tryz.strings_HasPrefix s ⟨#[58, 61]⟩ w
  have q3 : ∀ w, Calls Tryz.prog 17 #[.string s, .string ⟨#[61]⟩] w fun e w' => e = .returned (.bool (Lib.hasPrefix (tl s) [61])) ∧ w' = w := fun w => Tryz.strings_HasPrefix s ⟨#[61]⟩ w
  have q4 : ∀ w, Calls Tryz.prog 17 #[.string s, .string ⟨#[58, 58]⟩] w fun e w' => e = .returned (.bool (Lib.hasPrefix (tl s) [58, 58])) ∧ w' = w := fun w => Tryz.strings_HasPrefix s ⟨#[58, 58]⟩ w
  unfold sepP
  cases h1 : Lib.hasPrefix (tl s) [58, 58, 61] with
  | true =>
    rw [h1] at q1
    clear h1
    go_enter Tryz.func32, Tryz.ntmps32
    go_wp2_with fail
    refine (q1 _).mono ?_
    rintro e w1 ⟨rfl, rfl⟩
    go_wp2
    go_ret2
    exact ⟨rfl, rfl⟩
  | false =>
    rw [h1] at q1
    clear h1
    cases h2 : Lib.hasPrefix (tl s) [58, 61] with
    | true =>
      rw [h2] at q2
      clear h2
      go_enter Tryz.func32, Tryz.ntmps32
      go_wp2_with fail
      refine (q1 _).mono ?_
      rintro e w1 ⟨rfl, rfl⟩
      go_wp2_with fail
      refine (q2 _).mono ?_
      rintro e w1 ⟨rfl, rfl⟩
      go_wp2
      go_ret2
      exact ⟨rfl, rfl⟩
    | false =>
      rw [h2] at q2
      clear h2
      cases h3 : Lib.hasPrefix (tl s) [61] with
      | true =>
        rw [h3] at q3
        clear h3
        go_enter Tryz.func32, Tryz.ntmps32
        go_wp2_with fail
        refine (q1 _).mono ?_
        rintro e w1 ⟨rfl, rfl⟩
        go_wp2_with fail
        refine (q2 _).mono ?_
        rintro e w1 ⟨rfl, rfl⟩
        go_wp2_with fail
        refine (q3 _).mono ?_
        rintro e w1 ⟨rfl, rfl⟩
        go_wp2
        go_ret2
        exact ⟨rfl, rfl⟩
      | false =>
        rw [h3] at q3
        clear h3
        cases h4 : Lib.hasPrefix (tl s) [58, 58] with
        | true =>
          rw [h4] at q4
          clear h4
          go_enter Tryz.func32, Tryz.ntmps32
          go_wp2_with fail
          refine (q1 _).mono ?_
          rintro e w1 ⟨rfl, rfl⟩
          go_wp2_with fail
          refine (q2 _).mono ?_
          rintro e w1 ⟨rfl, rfl⟩
          go_wp2_with fail
          refine (q3 _).mono ?_
          rintro e w1 ⟨rfl, rfl⟩
          go_wp2_with fail
          refine (q4 _).mono ?_
          rintro e w1 ⟨rfl, rfl⟩
          go_wp2
          go_ret2
          exact ⟨rfl, rfl⟩
        | false =>
          rw [h4] at q4
          clear h4
          go_enter Tryz.func32, Tryz.ntmps32
          go_wp2_with fail
          refine (q1 _).mono ?_
          rintro e w1 ⟨rfl, rfl⟩
          go_wp2_with fail
          refine (q2 _).mono ?_
          rintro e w1 ⟨rfl, rfl⟩
          go_wp2_with fail
          refine (q3 _).mono ?_
          rintro e w1 ⟨rfl, rfl⟩
          go_wp2_with fail
          refine (q4 _).mono ?_
          rintro e w1 ⟨rfl, rfl⟩
          go_wp2
          go_ret2
          exact ⟨rfl, rfl⟩
/-- what stands at the end of a left side, taken off, and how it is set -/
def modB (l : ByteArray) : ByteArray × Nat :=
  if Lib.hasSuffix (tl l) [43] then (Tx.trimmed (l.extract 0 (l.size - 1)), 4) else if Lib.hasSuffix (tl l) [63] then (Tx.trimmed (l.extract 0 (l.size - 1)), 3) else if Lib.hasSuffix (tl l) [33] then (Tx.trimmed (l.extract 0 (l.size - 1)), 5) else (l, 1)
theorem suf_pos (l : ByteArray) (c : UInt8) (h : Lib.hasSuffix (tl l) [c] = true) : 1 ≤ l.size := by
  rw [← tl_len]
  have h2 : [c] <:+ tl l := List.isSuffixOf_iff_suffix.1 h
  exact h2.length_le
set_option maxHeartbeats 1000000 in
theorem mod_any (s : ByteArray) (hs : s.size ≤ 1000000) (w : World) : Calls Tryz.prog 54 #[.string s] w fun e w' => e = .returned (.tuple #[.string (modB s).1, .int .i64 ((modB s).2 : Nat)]) ∧ Below w.heap.size w w' := by
  have q1 : ∀ w, Calls Tryz.prog 59 #[.string s, .string ⟨#[43]⟩] w fun e w' => e = .returned (.bool (Lib.hasSuffix (tl s) [43])) ∧ w' = w := fun w => Tryz.strings_HasSuffix s ⟨#[43]⟩ w (by omega)
  have q2 : ∀ w, Calls Tryz.prog 59 #[.string s, .string ⟨#[63]⟩] w fun e w' => e = .returned (.bool (Lib.hasSuffix (tl s) [63])) ∧ w' = w := fun w => Tryz.strings_HasSuffix s ⟨#[63]⟩ w (by omega)
  have q3 : ∀ w, Calls Tryz.prog 59 #[.string s, .string ⟨#[33]⟩] w fun e w' => e = .returned (.bool (Lib.hasSuffix (tl s) [33])) ∧ w' = w := fun w => Tryz.strings_HasSuffix s ⟨#[33]⟩ w (by omega)
  have kT := fun w => Tx.trim_any (s.extract 0 (s.size - 1)) w (by rw [ByteArray.size_extract]; omega)
  unfold modB
  generalize Tx.trimmed (s.extract 0 (s.size - 1)) = T at kT
  cases h1 : Lib.hasSuffix (tl s) [43] with
  | true =>
    rw [h1] at q1
    have hp := suf_pos s _ h1
    have e1 : ((s.size - 1 : Nat) : Int) = (s.size : Int) - 1 := by omega
    clear h1
    go_enter Tryz.func54, Tryz.ntmps54
    go_wp2_with fail
    refine (q1 _).mono ?_
    rintro e w1 ⟨rfl, rfl⟩
    go_wp2_with (go_at_call 52; refine (kT _).mono ?_; rintro e w2 ⟨rfl, hb2⟩)
    go_ret2
    exact ⟨rfl, hb2⟩
  | false =>
    rw [h1] at q1
    clear h1
    cases h2 : Lib.hasSuffix (tl s) [63] with
    | true =>
      rw [h2] at q2
      have hp := suf_pos s _ h2
      have e1 : ((s.size - 1 : Nat) : Int) = (s.size : Int) - 1 := by omega
      clear h2
      go_enter Tryz.func54, Tryz.ntmps54
      go_wp2_with fail
      refine (q1 _).mono ?_
      rintro e w1 ⟨rfl, rfl⟩
      go_wp2_with fail
      refine (q2 _).mono ?_
      rintro e w1 ⟨rfl, rfl⟩
      go_wp2_with (go_at_call 52; refine (kT _).mono ?_; rintro e w2 ⟨rfl, hb2⟩)
      go_ret2
      exact ⟨rfl, hb2⟩
    | false =>
      rw [h2] at q2
      clear h2
      cases h3 : Lib.hasSuffix (tl s) [33] with
      | true =>
        rw [h3] at q3
        have hp := suf_pos s _ h3
        have e1 : ((s.size - 1 : Nat) : Int) = (s.size : Int) - 1 := by omega
        clear h3
        go_enter Tryz.func54, Tryz.ntmps54
        go_wp2_with fail
        refine (q1 _).mono ?_
        rintro e w1 ⟨rfl, rfl⟩
        go_wp2_with fail
        refine (q2 _).mono ?_
        rintro e w1 ⟨rfl, rfl⟩
        go_wp2_with fail
        refine (q3 _).mono ?_
        rintro e w1 ⟨rfl, rfl⟩
        go_wp2_with (go_at_call 52; refine (kT _).mono ?_; rintro e w2 ⟨rfl, hb2⟩)
        go_ret2
        exact ⟨rfl, hb2⟩
      | false =>
        rw [h3] at q3
        clear h3
        go_enter Tryz.func54, Tryz.ntmps54
        go_wp2_with fail
        refine (q1 _).mono ?_
        rintro e w1 ⟨rfl, rfl⟩
        go_wp2_with fail
        refine (q2 _).mono ?_
        rintro e w1 ⟨rfl, rfl⟩
        go_wp2_with fail
        refine (q3 _).mono ?_
        rintro e w1 ⟨rfl, rfl⟩
        go_wp2
        go_ret2
        exact ⟨rfl, Below.refl _ _⟩
end Go.Proofs.YthkjinhnnilalaaGreatDoor
