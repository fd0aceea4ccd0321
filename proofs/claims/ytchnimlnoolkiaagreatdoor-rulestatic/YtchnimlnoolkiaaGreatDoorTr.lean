/- The contracts of strings.TrimLeft at the blanks, of anvilref1.Blank and anvilref1.Left. -/
import Derived.Test.YtchnimlnoolkiaaGreatDoorPlain
import Derived.Test.YtchnimlnoolkiaaGreatDoorShelf
import Derived.Shelf.Strings.SlTrimAscii
namespace Go.Proofs.YtchnimlnoolkiaaGreatDoor
open Go.RowKit Go.Shelf

theorem bl_has (b : UInt8) : ([32, 9, 10] : List UInt8).contains b = bl b := by
  rw [Bool.eq_iff_iff]
  constructor
  · intro h
    have : b = 32 ∨ b = 9 ∨ b = 10 := by simpa using h
    rcases this with rfl | rfl | rfl <;> rfl
  · intro h
    rcases bl_yes b h with rfl | rfl | rfl <;> rfl
theorem small3 : ∀ (j : Nat) b, (⟨#[32, 9, 10]⟩ : ByteArray).data.toList[j]? = some b → b.toNat < 128 := by
  intro j b h
  have hm : b ∈ ([32, 9, 10] : List UInt8) := List.mem_of_getElem? h
  rcases (by simpa using hm : b = 32 ∨ b = 9 ∨ b = 10) with rfl | rfl | rfl <;> decide
theorem info75 : (Tryz.prog.info? 78).map (fun i : TypeInfo => (i.zero, i.size)) = some (some (.agg (Array.replicate 256 (.bool false))), 256) := by kernel_rfl
theorem trimL_any (s : ByteArray) (w : World) : Calls Tryz.prog 30 #[.string s, .string ⟨#[32, 9, 10]⟩] w fun e w' => e = .returned (.string (mk ((tl s).dropWhile bl))) ∧ Below w.heap.size w w' := by
  have e1 : Lib.trimLeftS (tl s) [32, 9, 10] = (tl s).dropWhile bl := by
    unfold Lib.trimLeftS
    congr 1
    funext b
    exact bl_has b
  have := Any.strings_TrimLeft_laid Tryz.lays161 info75 s ⟨#[32, 9, 10]⟩ w (by decide) small3
  rw [← e1]
  exact this
theorem rblank_any (c : UInt8) (w : World) :
    Calls Tryz.prog 51 #[.int .u8 c.toNat] w fun e w' => e = .returned (.bool (bl c)) ∧ w' = w := by
  cases h : bl c with
  | true =>
    rcases bl_yes c h with e | e | e <;> rw [e]
    · go_enter Tryz.func51, Tryz.ntmps51
      go_wp2
      go_ret
      exact ⟨rfl, rfl⟩
    · go_enter Tryz.func51, Tryz.ntmps51
      go_wp2
      go_ret
      exact ⟨rfl, rfl⟩
    · go_enter Tryz.func51, Tryz.ntmps51
      go_wp2
      go_ret
      exact ⟨rfl, rfl⟩
  | false =>
    obtain ⟨h1, h2, h3⟩ := bl_no c h
    have k1 : ((c.toNat : Int) == 32) = false := beq_eq_false_iff_ne.2 (by omega)
    have k2 : ((c.toNat : Int) == 9) = false := beq_eq_false_iff_ne.2 (by omega)
    have k3 : ((c.toNat : Int) == 10) = false := beq_eq_false_iff_ne.2 (by omega)
    go_enter Tryz.func51, Tryz.ntmps51
    go_wp2
    go_ret
    exact ⟨rfl, rfl⟩
set_option maxHeartbeats 1000000 in
theorem left_any (s : ByteArray) (hs : s.size ≤ 1000000) (w : World) :
    Calls Tryz.prog 28 #[.string s] w fun e w' => e = .returned (.string (mk ((tl s).dropWhile bl))) ∧ w' = w := by
  obtain ⟨R, hR⟩ : ∃ R, R = (tl s).dropWhile bl := ⟨_, rfl⟩
  have HR := hide' hR
  rw [← hR]
  clear hR
  go_enter Tryz.func28, Tryz.ntmps28
  go_wp2
  go_loop [3] (fun i => ∃ k : Nat, k ≤ s.size ∧ i = .int .i64 k ∧ Hid (((tl s).drop k).dropWhile bl = R)) (fun i => s.size - (intOf i).toNat)
  case atStart => exact ⟨0, Nat.zero_le _, rfl, by rw [HR.out]; rfl⟩
  case round =>
    clear HR
    obtain ⟨k, hk, rfl, HI⟩ := hrel
    by_cases hlt : k < s.size
    · have kb : ∀ w, Calls Tryz.prog 51 #[.int .u8 s[k].toNat] w fun e w' => e = .returned (.bool (bl s[k])) ∧ w = w' := fun w => (rblank_any s[k] w).mono fun e w' ⟨h1, h2⟩ => ⟨h1, h2.symm⟩
      cases hb : bl s[k] with
      | true =>
        rw [hb] at kb
        have HI' : Hid (((tl s).drop (k + 1)).dropWhile bl = R) := by
          show _ = _
          rw [← HI.out, drop_at s k hlt, List.dropWhile_cons, hb]
          rfl
        clear HI hb
        go_wp2_with (go_at_call 51; refine (kb _).mono ?_; rintro e w' ⟨rfl, rfl⟩)
        exact ⟨⟨k + 1, by omega, by go_num, HI'⟩, by simp [intOf]; omega⟩
      | false =>
        rw [hb] at kb
        have HI' : Hid (s.extract k s.size = mk R) := by
          show _ = _
          rw [← HI.out, ext_drop, drop_at s k hlt, List.dropWhile_cons, hb]
          rfl
        clear HI hb
        go_wp2_with (go_at_call 51; refine (kb _).mono ?_; rintro e w' ⟨rfl, rfl⟩)
        go_ret
        exact ⟨ret_str HI'.out, rfl⟩
    · obtain rfl : k = s.size := by omega
      have HI' : Hid (s.extract s.size s.size = mk R) := by
        show _ = _
        rw [← HI.out, ext_drop, drop_end s s.size (Nat.le_refl _)]
        rfl
      clear HI
      go_wp2
      go_ret
      exact ⟨ret_str (by first | exact HI'.out | (rw [← HI'.out]; simp)), rfl⟩
end Go.Proofs.YtchnimlnoolkiaaGreatDoor
