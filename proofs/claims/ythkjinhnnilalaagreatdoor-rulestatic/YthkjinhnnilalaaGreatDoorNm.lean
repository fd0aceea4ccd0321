/- The contract of rule.Name. -/
import Derived.Test.YthkjinhnnilalaaGreatDoorTake
import Derived.Test.YthkjinhnnilalaaGreatDoorTr
import Derived.Test.YthkjinhnnilalaaGreatDoorScan
namespace Go.Proofs.YthkjinhnnilalaaGreatDoor
open Go.RowKit Go.Shelf

theorem drop_ext (s : ByteArray) (a : Nat) : tl (s.extract a s.size) = (tl s).drop a := by rw [ext_drop, tl_mk]
/-- the number of bytes of a text that is a value -/
def szOf : Value → Nat
  | .string x => x.size
  | _ => 0
def sl47 (c : UInt8) : Bool := c == 47
/-- each ./ at the beginning goes -/
def nmL : Nat → Bs → Bs
  | 0, l => l
  | f + 1, l => if Lib.hasPrefix l [46, 47] then nmL f ((l.drop 1).dropWhile sl47) else l
def nmE (l : Bs) : Bs := if l.isEmpty then [46] else l
def nmB (s : ByteArray) : ByteArray := mk (nmE (nmL s.size (tl s)))
theorem dw_len (l : Bs) (p : UInt8 → Bool) : (l.dropWhile p).length ≤ l.length := (List.dropWhile_suffix p).length_le
theorem nmL_len : ∀ (f : Nat) (l : Bs), (nmL f l).length ≤ l.length
  | 0, l => Nat.le_refl _
  | f + 1, l => by
    unfold nmL
    split
    · have h1 := nmL_len f ((l.drop 1).dropWhile sl47)
      have h2 := dw_len (l.drop 1) sl47
      rw [List.length_drop] at h2
      omega
    · exact Nat.le_refl _
theorem nmB_size (s : ByteArray) : (nmB s).size ≤ s.size + 1 := by
  unfold nmB nmE
  rw [mk_size]
  have := nmL_len s.size (tl s)
  rw [tl_len] at this
  split
  · simp
  · omega
theorem emp_of (x : ByteArray) : x.toList.isEmpty = (tl x).isEmpty := by rw [Lib.toList_data]; rfl
set_option maxHeartbeats 1000000 in
theorem name_any (s : ByteArray) (hs : s.size ≤ 1000000) (w : World) : Calls Tryz.prog 7 #[.string s] w fun e w' => e = .returned (.string (nmB s)) ∧ Below w.heap.size w w' := by
  obtain ⟨R, hR⟩ : ∃ R, R = nmL s.size (tl s) := ⟨_, rfl⟩
  have HR := hide' hR
  have hN : nmB s = mk (nmE R) := by unfold nmB; rw [hR]
  rw [hN]
  clear hN hR
  go_enter Tryz.func7, Tryz.ntmps7
  go_wp2
  go_loop [0] (fun i => ∃ (x : ByteArray) (f : Nat), x.size ≤ f ∧ x.size ≤ s.size ∧ i = .string x ∧ Hid (nmL f (tl x) = R)) (fun i => szOf i)
  case atStart => exact ⟨s, s.size, Nat.le_refl _, Nat.le_refl _, rfl, HR.out.symm⟩
  case round =>
    clear HR
    obtain ⟨x, f, hf, hxs, rfl, HI⟩ := hrel
    have q1 : ∀ w, Calls Tryz.prog 17 #[.string x, .string ⟨#[46, 47]⟩] w fun e w' => e = .returned (.bool (Lib.hasPrefix (tl x) [46, 47])) ∧ w' = w := fun w => Tryz.strings_HasPrefix x ⟨#[46, 47]⟩ w
    cases hp : Lib.hasPrefix (tl x) [46, 47] with
    | true =>
      rw [hp] at q1
      have hl := (List.isPrefixOf_iff_prefix.1 hp).length_le
      rw [tl_len] at hl
      have hl2 : 2 ≤ x.size := hl
      obtain ⟨f, rfl⟩ : ∃ f', f = f' + 1 := ⟨f - 1, by omega⟩
      have sF := sl_from x 1 (by omega)
      have q2 : ∀ w, Calls Tryz.prog 18 #[.string (x.extract 1 x.size), .string ⟨#[47]⟩] w fun e w' => e = .returned (.string (mk (((tl x).drop 1).dropWhile sl47))) ∧ w' = w := fun w => by
        have := Tryz.strings_TrimLeft_one (x.extract 1 x.size) 47 (by decide) w
        rw [show (x.extract 1 x.size).data.toList = (tl x).drop 1 from drop_ext x 1] at this
        exact this
      have hsz := dw_len ((tl x).drop 1) sl47
      rw [List.length_drop, tl_len] at hsz
      have HI' : Hid (nmL f (tl (mk (((tl x).drop 1).dropWhile sl47))) = R) := by
        show _ = _
        rw [tl_mk, ← HI.out]
        conv => rhs; unfold nmL
        rw [if_pos hp]
      have hms : (mk (((tl x).drop 1).dropWhile sl47)).size ≤ x.size - 1 := by rw [mk_size]; exact hsz
      generalize mk (((tl x).drop 1).dropWhile sl47) = y at q2 HI' hms
      clear hp HI hl hsz
      rw [show (((1 : Nat) : Int)) = 1 from rfl] at sF
      go_wp2_with (first | (go_at_call 17; refine (q1 _).mono ?_; rintro e w1 ⟨rfl, rfl⟩) | (go_at_call 18; refine (q2 _).mono ?_; rintro e w1 ⟨rfl, rfl⟩))
      exact ⟨⟨y, f, by omega, by omega, rfl, HI'⟩, by simp [szOf]; omega⟩
    | false =>
      rw [hp] at q1
      have hx : tl x = R := by
        rw [← HI.out]
        cases f with
        | zero => rfl
        | succ f => unfold nmL; rw [if_neg (by rw [hp]; decide)]
      have hE := emp_of x
      cases he : (tl x).isEmpty with
      | true =>
        rw [he] at hE
        have HF : Hid (mk (nmE R) = ⟨#[46]⟩) := by
          show _ = _
          rw [← hx]
          unfold nmE
          rw [if_pos he]
        clear hp HI hx he
        go_wp2_with (go_at_call 17; refine (q1 _).mono ?_; rintro e w1 ⟨rfl, rfl⟩)
        go_ret
        exact ⟨ret_str HF.out.symm, Below.refl _ _⟩
      | false =>
        rw [he] at hE
        have HF : Hid (mk (nmE R) = x) := by
          show _ = _
          rw [← hx]
          unfold nmE
          rw [if_neg (by rw [he]; decide)]
          exact mk_tl x
        have kC := fun w => Tx.clone_any x w (by omega)
        clear hp HI hx he
        go_wp2_with (first | (go_at_call 17; refine (q1 _).mono ?_; rintro e w1 ⟨rfl, rfl⟩) | (go_at_call 19; refine (kC _).mono ?_; rintro e w2 ⟨rfl, hb2⟩))
        go_ret
        exact ⟨ret_str HF.out.symm, hb2⟩
end Go.Proofs.YthkjinhnnilalaaGreatDoor
