/- The contracts of anvilref1.Blank, text.Trim and anvilref1.Trim: both cut the same piece out of their text. -/
import Derived.Test.YthkjinhnnilalaaGreatDoorXWords
namespace Go.Proofs.YthkjinhnnilalaaGreatDoor.Tx
open Go.RowKit Go.Shelf

/-- how many blanks a text begins with -/
def lb (l : List UInt8) : Nat := (l.takeWhile bl).length
theorem lb_le (l : List UInt8) : lb l ≤ l.length := (List.takeWhile_prefix bl).length_le
theorem lb_yes (c : UInt8) (r : List UInt8) (h : bl c = true) : lb (c :: r) = lb r + 1 := by simp [lb, h]
theorem lb_no (c : UInt8) (r : List UInt8) (h : bl c = false) : lb (c :: r) = 0 := by simp [lb, h]
/-- where a text ends, its blanks from k downward taken off, down to i -/
def rend (l : List UInt8) (i : Nat) : Nat → Nat
  | 0 => 0
  | k + 1 => if i < k + 1 ∧ bl (l.getD k 0) = true then rend l i k else k + 1
theorem rend_bd (l : List UInt8) (i : Nat) : ∀ k, i ≤ k → i ≤ rend l i k ∧ rend l i k ≤ k := by
  intro k
  induction k with
  | zero => intro h; exact ⟨h, Nat.le_refl _⟩
  | succ k ih =>
    intro h
    unfold rend
    split
    · have := ih (by omega); omega
    · omega
theorem rend_go (l : List UInt8) (i k : Nat) (h1 : i < k + 1) (h2 : bl (l.getD k 0) = true) : rend l i (k + 1) = rend l i k := by
  conv => lhs; unfold rend
  rw [if_pos ⟨h1, h2⟩]
theorem rend_stop (l : List UInt8) (i k : Nat) (h : ¬ (i < k + 1 ∧ bl (l.getD k 0) = true)) : rend l i (k + 1) = k + 1 := by
  conv => lhs; unfold rend
  rw [if_neg h]
theorem getD_at (s : ByteArray) (k : Nat) (h : k < s.size) : s.data.toList.getD k 0 = s[k] := by
  rw [List.getD_eq_getElem?_getD, List.getElem?_eq_getElem (by simpa using h)]; rfl
/-- what Trim tells -/
def trimmed (s : ByteArray) : ByteArray := s.extract (lb s.data.toList) (rend s.data.toList (lb s.data.toList) s.size)

theorem ret_str' {a b : ByteArray} (h : a = b) : Ending.returned (.string a) = .returned (.string b) := by rw [h]
theorem hide' {p : Prop} (h : p) : Hid p := h
set_option maxHeartbeats 1000000 in
theorem trim_any (s : ByteArray) (w : World) (hs : s.size ≤ 1000000) :
    Calls Tryz.prog 52 #[.string s] w fun e w' => e = .returned (.string (trimmed s)) ∧ Below w.heap.size w w' := by
  have hq : ∀ a b, (s.extract a b).size ≤ 281474976710656 := fun a b => by rw [ByteArray.size_extract]; omega
  go_enter Tryz.func52, Tryz.ntmps52
  go_wp2
  go_loop [3] (fun i => ∃ k : Nat, k ≤ s.size ∧ i = .int .i64 k ∧ Hid (k + lb (s.data.toList.drop k) = lb s.data.toList)) (fun i => s.size - (intOf i).toNat)
  case atStart => exact ⟨0, Nat.zero_le _, rfl, by show 0 + lb (s.data.toList.drop 0) = _; simp⟩
  case round =>
    obtain ⟨k, hk, rfl, HK⟩ := hrel
    by_cases hgo : k < s.size ∧ ∃ h : k < s.size, bl s[k] = true
    · obtain ⟨hlt, _, hb⟩ := hgo
      have h0 := lb_yes s[k] (s.data.toList.drop (k + 1)) hb
      rw [← drop_at s k hlt] at h0
      have HF : Hid (k + 1 + lb (s.data.toList.drop (k + 1)) = lb s.data.toList) := by show _ = _; have := HK.out; omega
      have kb : ∀ w, Calls Tryz.prog 72 #[.int .u8 s[k].toNat] w fun e w' => e = .returned (.bool true) ∧ w' = w := fun w => by have := blank_any s[k] w; rwa [hb] at this
      clear h0 HK hb
      go_wp2_with (go_at_call 72; refine (kb _).mono ?_; rintro e w' ⟨rfl, rfl⟩)
      exact ⟨⟨k + 1, by omega, by go_num, HF⟩, by simp [intOf]; omega⟩
    · have hkl : lb s.data.toList = k := by
        have := HK.out
        by_cases hlt : k < s.size
        · have hb : bl s[k] = false := by
            cases hb : bl s[k] with
            | false => rfl
            | true => exact absurd ⟨hlt, hlt, hb⟩ hgo
          rw [drop_at s k hlt, lb_no _ _ hb] at this
          omega
        · rw [drop_end s k hlt, show lb [] = 0 from rfl] at this
          omega
      have kbb : ∀ h : k < s.size, ∀ w, Calls Tryz.prog 72 #[.int .u8 s[k].toNat] w fun e w' => e = .returned (.bool false) ∧ w' = w := fun hlt w => by
        have hb : bl s[k] = false := by
          cases hb : bl s[k] with
          | false => rfl
          | true => exact absurd ⟨hlt, hlt, hb⟩ hgo
        have := blank_any s[k] w
        rwa [hb] at this
      have hfin : ∀ m, rend s.data.toList k m = m → rend s.data.toList k m = rend s.data.toList k s.size → s.extract k m = trimmed s := fun m h1 h2 => by
        unfold trimmed
        rw [hkl, ← h2, h1]
      have HF := hide' hfin
      clear hkl HK hgo hfin
      by_cases hlt : k < s.size
      have kb := kbb hlt
      clear kbb
      go_wp2_with (go_at_call 72; refine (kb _).mono ?_; rintro e w' ⟨rfl, rfl⟩)
      clear kb
      rotate_left
      clear kbb
      go_wp2
      all_goals
        go_loop [4] (fun j => ∃ m : Nat, k ≤ m ∧ m ≤ s.size ∧ j = .int .i64 m ∧ Hid (rend s.data.toList k m = rend s.data.toList k s.size)) (fun j => (intOf j).toNat)
        case atStart => exact ⟨s.size, by omega, Nat.le_refl _, rfl, rfl⟩
        case round =>
          obtain ⟨m, hm1, hm2, rfl, HM⟩ := hrel
          by_cases hkm : k < m
          · obtain ⟨m', rfl⟩ : ∃ m', m = m' + 1 := ⟨m - 1, by omega⟩
            have hlt' : m' < s.size := by omega
            cases hb : bl s[m'] with
            | true =>
              have h0 := rend_go s.data.toList k m' hkm (by rw [getD_at s m' hlt']; exact hb)
              have HM' : Hid (rend s.data.toList k m' = rend s.data.toList k s.size) := by show _ = _; rw [← h0]; exact HM.out
              have kb : ∀ w, Calls Tryz.prog 72 #[.int .u8 s[m'].toNat] w fun e w' => e = .returned (.bool true) ∧ w' = w := fun w => by have := blank_any s[m'] w; rwa [hb] at this
              clear h0 HM hb
              go_wp2_with (go_at_call 72; refine (kb _).mono ?_; rintro e w' ⟨rfl, rfl⟩)
              all_goals exact ⟨⟨m', by omega, by omega, by go_num, HM'⟩, by simp [intOf]⟩
            | false =>
              have h0 := rend_stop s.data.toList k m' (fun h => by rw [getD_at s m' hlt', hb] at h; cases h.2)
              have HE := hide' (HF.out (m' + 1) h0 HM.out)
              have kb : ∀ w, Calls Tryz.prog 72 #[.int .u8 s[m'].toNat] w fun e w' => e = .returned (.bool false) ∧ w' = w := fun w => by have := blank_any s[m'] w; rwa [hb] at this
              clear h0 HM hb HF
              go_wp2_with (first | (go_at_call 72; refine (kb _).mono ?_; rintro e w' ⟨rfl, rfl⟩) | (go_at_call 19; refine (clone_any _ _ (by first | exact hq _ _ | exact Nat.zero_le _)).mono ?_; rintro e w1 ⟨rfl, hb1⟩))
              all_goals go_ret
              all_goals exact ⟨ret_str' HE.out, hb1⟩
          · obtain rfl : m = k := by omega
            have h0 : rend s.data.toList m m = m := by have := rend_bd s.data.toList m m (Nat.le_refl _); omega
            have HE := hide' (HF.out m h0 HM.out)
            clear h0 HM HF
            go_wp2_with (go_at_call 19; refine (clone_any _ _ (by first | exact hq _ _ | exact Nat.zero_le _)).mono ?_; rintro e w1 ⟨rfl, hb1⟩)
            go_ret
            exact ⟨ret_str' (by rw [← HE.out]; simp), hb1⟩
end Go.Proofs.YthkjinhnnilalaaGreatDoor.Tx
