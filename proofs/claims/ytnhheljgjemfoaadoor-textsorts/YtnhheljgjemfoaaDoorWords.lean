/- The contracts of text.blank, text.wordEnd, text.words and its iterator, and strings.Clone. -/
import Derived.RangeFuncNested
import Derived.RangeFuncBound
import Derived.RangeFuncCalls
import Derived.RangeFuncLeaves
import Derived.RangeFuncBox
import Derived.Shelf.Abstract
import Derived.Shelf.RegionOpen
import Derived.WalkKit
import Derived.WalkSpells
import Derived.WalkLawsBesides
import Derived.OwnWalkIn
import Derived.TacticsInMore
import Derived.LoopNIn
import Derived.LoopIn
import Derived.Maps.AppendAt
import Derived.Test.YtnhheljgjemfoaaDoorPlain
import Derived.Test.YtnhheljgjemfoaaDoorShelf
namespace Go.Proofs.YtnhheljgjemfoaaDoor
open Go.RowKit Go.Shelf
attribute [local go_sem] Oper.semAt_some

theorem bl_yes (c : UInt8) (h : bl c = true) : c.toNat = 32 ∨ c.toNat = 9 ∨ c.toNat = 10 := by simpa [bl, or_assoc] using h
theorem bl_no (c : UInt8) (h : bl c = false) : c.toNat ≠ 32 ∧ c.toNat ≠ 9 ∧ c.toNat ≠ 10 := by simpa [bl, and_assoc] using h

theorem blank_any (c : UInt8) (w : World) :
    Calls Tryd.prog 37 #[.int .u8 c.toNat] w fun e w' => e = .returned (.bool (bl c)) ∧ w' = w := by
  cases h : bl c with
  | true =>
    rcases bl_yes c h with e | e | e <;> rw [e]
    · go_enter Tryd.func37, Tryd.ntmps37
      go_wp2
      go_ret
      exact ⟨rfl, rfl⟩
    · go_enter Tryd.func37, Tryd.ntmps37
      go_wp2
      go_ret
      exact ⟨rfl, rfl⟩
    · go_enter Tryd.func37, Tryd.ntmps37
      go_wp2
      go_ret
      exact ⟨rfl, rfl⟩
  | false =>
    obtain ⟨h1, h2, h3⟩ := bl_no c h
    have k1 : ((c.toNat : Int) == 32) = false := beq_eq_false_iff_ne.2 (by omega)
    have k2 : ((c.toNat : Int) == 9) = false := beq_eq_false_iff_ne.2 (by omega)
    have k3 : ((c.toNat : Int) == 10) = false := beq_eq_false_iff_ne.2 (by omega)
    go_enter Tryd.func37, Tryd.ntmps37
    go_wp2
    go_ret
    exact ⟨rfl, rfl⟩

theorem drop_at (s : ByteArray) (k : Nat) (h : k < s.size) : s.data.toList.drop k = s[k] :: s.data.toList.drop (k + 1) := by
  rw [List.drop_eq_getElem_cons (by simpa using h)]; rfl
theorem drop_end (s : ByteArray) (k : Nat) (h : ¬ k < s.size) : s.data.toList.drop k = [] := List.drop_eq_nil_of_le (by simp; omega)

def wend (l : List UInt8) (a : Nat) : Nat := a + wl (l.drop a)
set_option maxHeartbeats 400000 in
theorem wordEnd_any (s : ByteArray) (a : Nat) (w : World) (hs : s.size ≤ maxLen) (ha : a ≤ s.size) :
    Calls Tryd.prog 38 #[.string s, .int .i64 a] w fun e w' => e = .returned (.int .i64 (wend s.data.toList a)) ∧ w' = w := by
  unfold maxLen at hs
  go_enter Tryd.func38, Tryd.ntmps38
  go_wp2
  go_loop [1] (fun i => ∃ k : Nat, a ≤ k ∧ k ≤ s.size ∧ i = .int .i64 k ∧ Hid (k + wl (s.data.toList.drop k) = wend s.data.toList a)) (fun i => s.size - (intOf i).toNat)
  case atStart => exact ⟨a, Nat.le_refl _, ha, rfl, rfl⟩
  case round =>
    obtain ⟨k, hk0, hk, rfl, HK⟩ := hrel
    by_cases hlt : k < s.size
    · cases hb : bl s[k] with
      | true =>
        have h0 := wl_blank s[k] (s.data.toList.drop (k + 1)) hb
        rw [← drop_at s k hlt] at h0
        have hfin : wend s.data.toList a = k := by have := HK.out; omega
        have HF : Hid (wend s.data.toList a = k) := hfin
        clear hfin h0 HK
        have kb : ∀ w, Calls Tryd.prog 37 #[.int .u8 s[k].toNat] w fun e w' => e = .returned (.bool true) ∧ w' = w := fun w => by have := blank_any s[k] w; rwa [hb] at this
        clear hb
        go_wp2_with (go_at_call 37; refine (kb _).mono ?_; rintro e w' ⟨rfl, rfl⟩)
        go_ret
        exact ⟨by rw [HF.out]; rfl, rfl⟩
      | false =>
        have h0 := wl_cons s[k] (s.data.toList.drop (k + 1)) hb
        rw [← drop_at s k hlt] at h0
        have hfin : k + 1 + wl (s.data.toList.drop (k + 1)) = wend s.data.toList a := by have := HK.out; omega
        have HF : Hid (k + 1 + wl (s.data.toList.drop (k + 1)) = wend s.data.toList a) := hfin
        clear hfin h0 HK
        have kb : ∀ w, Calls Tryd.prog 37 #[.int .u8 s[k].toNat] w fun e w' => e = .returned (.bool false) ∧ w' = w := fun w => by have := blank_any s[k] w; rwa [hb] at this
        clear hb
        go_wp2_with (go_at_call 37; refine (kb _).mono ?_; rintro e w' ⟨rfl, rfl⟩)
        exact ⟨⟨k + 1, by omega, by omega, by go_num, HF⟩, by simp [intOf]; omega⟩
    · have hfin : wend s.data.toList a = k := by have := HK.out; rw [drop_end s k hlt, wl_nil] at this; omega
      have HF : Hid (wend s.data.toList a = k) := hfin
      clear hfin HK
      go_wp2
      go_ret
      exact ⟨by rw [HF.out]; rfl, rfl⟩

theorem clone_any (s : ByteArray) (w : World) (hlim : s.size ≤ 281474976710656) :
    Calls Tryd.prog 23 #[.string s] w fun e w' => e = .returned (.string s) ∧ Below w.heap.size w w' := by
  go_enter Tryd.func23, Tryd.ntmps23
  go_wp2_with (go_at_call 33; refine (Tryd.stringslite_Clone _ _ hlim).mono ?_; rintro e w' ⟨rfl, hb⟩)
  go_ret
  exact ⟨rfl, hb⟩
end Go.Proofs.YtnhheljgjemfoaaDoor
