/- The contracts of text.digit, anvillaw1.num, text.Number and anvilref1.Number: each computes the plain number of a text of one to nine digits. -/
import Derived.Test.YtnhheljgjemfoaaDoorProg
import Derived.WalkKit
import Derived.WalkSpells
import Derived.WalkLawsBesides
namespace Go.Proofs.YtnhheljgjemfoaaDoor
open Go.RowKit

def dg (c : UInt8) : Bool := decide (48 ≤ c.toNat) && decide (c.toNat ≤ 57)
def nv : Int → List UInt8 → Int
  | n, [] => n
  | n, c :: r => nv (n * 10 + ((c.toNat : Int) - 48)) r
def isNum (l : List UInt8) : Bool := decide (1 ≤ l.length) && decide (l.length ≤ 9) && l.all dg
def numOf (l : List UInt8) : Int := if isNum l then nv 0 l else 0

theorem hide {p : Prop} (h : p) : Hid p := h
theorem unhide {p : Prop} (h : Hid p) : p := h
theorem nv_snoc (n : Int) (l : List UInt8) (c : UInt8) : nv n (l ++ [c]) = nv n l * 10 + ((c.toNat : Int) - 48) := by
  induction l generalizing n with
  | nil => rfl
  | cons d r ih => simp only [List.cons_append, nv]; exact ih _
theorem dg_iff (c : UInt8) : dg c = true ↔ 48 ≤ c.toNat ∧ c.toNat ≤ 57 := by simp [dg]
theorem nv_lt (l : List UInt8) : ∀ n : Int, 0 ≤ n → l.all dg = true → 0 ≤ nv n l ∧ nv n l < (n + 1) * 10 ^ l.length := by
  induction l with
  | nil => intro n h _; simp [nv]; omega
  | cons c r ih =>
    intro n h0 h
    simp only [List.all_cons, Bool.and_eq_true] at h
    have hc := (dg_iff c).1 h.1
    have := ih (n * 10 + ((c.toNat : Int) - 48)) (by omega) h.2
    refine ⟨this.1, Int.lt_of_lt_of_le this.2 ?_⟩
    have hp : (0 : Int) ≤ 10 ^ r.length := Int.le_of_lt (Int.pow_pos (by decide))
    have e : (n + 1) * 10 ^ (c :: r).length = (n * 10 + 10) * 10 ^ r.length := by
      rw [List.length_cons, Int.pow_succ, Int.mul_comm (10 ^ r.length) 10, ← Int.mul_assoc]; congr 1; omega
    rw [e]
    exact Int.mul_le_mul_of_nonneg_right (by omega) hp
theorem nv_bd (l : List UInt8) (h : l.all dg = true) : 0 ≤ nv 0 l ∧ nv 0 l < 10 ^ l.length := by
  have := nv_lt l 0 (by omega) h
  rw [show (0 + 1 : Int) = 1 from rfl, Int.one_mul] at this
  exact this
theorem nv_bd9 (l : List UInt8) (h : l.all dg = true) (h9 : l.length ≤ 9) : 0 ≤ nv 0 l ∧ nv 0 l < 1000000000 := by
  have := nv_bd l h
  have hp : (10 : Int) ^ l.length ≤ 10 ^ 9 := by exact_mod_cast Nat.pow_le_pow_right (by omega) h9
  have : (10 : Int) ^ 9 = 1000000000 := by decide
  omega
theorem take_snoc (s : ByteArray) (k : Nat) (h : k < s.size) : s.data.toList.take (k + 1) = s.data.toList.take k ++ [s[k]] := by
  rw [List.take_succ_eq_append_getElem (by simpa using h)]; rfl

theorem digit_yes (c : Nat) (h1 : 48 ≤ c) (h2 : c ≤ 57) (w : World) :
    Calls Tryd.prog 25 #[.int .u8 c] w fun e w' => e = .returned (.bool true) ∧ w' = w := by
  have k1 : (48 : Int) ≤ c := by omega
  have k2 : (c : Int) ≤ 57 := by omega
  go_enter Tryd.func25, Tryd.ntmps25
  go_wp2
  go_ret
  exact ⟨by simp, rfl⟩
theorem digit_no (c : Nat) (h : c < 48 ∨ 57 < c) (w : World) :
    Calls Tryd.prog 25 #[.int .u8 c] w fun e w' => e = .returned (.bool false) ∧ w' = w := by
  by_cases h1 : 48 ≤ c
  · have k1 : (48 : Int) ≤ c := by omega
    have k2 : ¬ (c : Int) ≤ 57 := by omega
    go_enter Tryd.func25, Tryd.ntmps25
    go_wp2
    go_ret
    exact ⟨by simp, rfl⟩
  · have k1 : ¬ (48 : Int) ≤ c := by omega
    go_enter Tryd.func25, Tryd.ntmps25
    go_wp2
    go_ret
    exact ⟨rfl, rfl⟩

theorem num_any (n : Int) (w : World) :
    Calls Tryd.prog 14 #[.int .i64 n] w fun e w' => e = .returned (.int .i64 n) ∧ w' = w := by
  go_enter Tryd.func14, Tryd.ntmps14
  go_wp2
  go_ret
  exact ⟨rfl, rfl⟩

theorem number_len (s : ByteArray) (w : World) (h : s.size < 1 ∨ 9 < s.size) (hs : s.size ≤ maxLen) :
    Calls Tryd.prog 13 #[.string s] w fun e w' => e = .returned (.tuple #[.int .i64 0, .bool false]) ∧ w' = w := by
  unfold maxLen at hs
  by_cases h1 : s.size < 1
  · have k1 : (s.size : Int) < 1 := by omega
    go_enter Tryd.func13, Tryd.ntmps13
    go_wp2
    go_ret2
    exact ⟨rfl, rfl⟩
  · have k1 : ¬ (s.size : Int) < 1 := by omega
    have k2 : (9 : Int) < s.size := by omega
    go_enter Tryd.func13, Tryd.ntmps13
    go_wp2
    go_ret2
    exact ⟨rfl, rfl⟩

set_option maxHeartbeats 400000 in
theorem number_walk (s : ByteArray) (w : World) (h1 : 1 ≤ s.size) (h9 : s.size ≤ 9) :
    Calls Tryd.prog 13 #[.string s] w fun e w' => e = .returned (.tuple #[.int .i64 (numOf s.data.toList), .bool (isNum s.data.toList)]) ∧ w' = w := by
  have k1 : ¬ (s.size : Int) < 1 := by omega
  have k2 : ¬ (9 : Int) < s.size := by omega
  go_enter Tryd.func13, Tryd.ntmps13
  go_wp2
  go_loop [4, 16] (fun n i => ∃ k : Nat, k ≤ s.size ∧ i = .int .i64 k ∧ (s.data.toList.take k).all dg = true ∧ n = .int .i64 (nv 0 (s.data.toList.take k))) (fun _ i => s.size - (intOf i).toNat)
  case atStart => exact ⟨0, Nat.zero_le _, rfl, rfl, rfl⟩
  case round =>
    obtain ⟨k, hk, rfl, ha, rfl⟩ := hrel
    have hb := nv_bd9 _ ha (by simp; omega)
    by_cases hlt : k < s.size
    · have hb9 := nv_bd9 _ ha (by simp; omega)
      have hsn := nv_snoc 0 (s.data.toList.take k) s[k]
      have hal : (s.data.toList.take (k + 1)).all dg = ((s.data.toList.take k).all dg && dg s[k]) := by rw [take_snoc s k hlt]; simp
      rw [← take_snoc s k hlt] at hsn
      have HS := hide hsn
      clear hsn
      by_cases hd : dg s[k] = true
      · have h2 := (dg_iff _).1 hd
        have hal' : (s.data.toList.take (k + 1)).all dg = true := by rw [hal, ha, hd]; rfl
        clear hal hd ha
        go_wp2_with (go_at_call 25; refine (digit_yes _ (by omega) (by omega) _).mono ?_; rintro e w' ⟨rfl, rfl⟩)
        exact ⟨⟨k + 1, by omega, by go_num, hal', by rw [unhide HS]⟩, by simp [intOf]; omega⟩
      · have h2 : s[k].toNat < 48 ∨ 57 < s[k].toNat := by
          have := mt (dg_iff s[k]).2 hd
          omega
        have hfin : isNum s.data.toList = false := by
          simp only [isNum, Bool.and_eq_false_iff]
          right
          rw [← List.take_append_drop (k + 1) s.data.toList, List.all_append, hal]
          simp [hd]
        have hz : numOf s.data.toList = 0 := by rw [numOf, hfin]; rfl
        have HF := hide hfin
        have HZ := hide hz
        clear hal hd ha hfin hz HS
        go_wp2_with (go_at_call 25; refine (digit_no _ (by omega) _).mono ?_; rintro e w' ⟨rfl, rfl⟩)
        go_ret2
        exact ⟨by rw [unhide HF, unhide HZ]; rfl, rfl⟩
    · have hke : s.data.toList.take k = s.data.toList := List.take_of_length_le (by simp; omega)
      have hfin : isNum s.data.toList = true := by
        rw [hke] at ha
        have hl : s.data.toList.length = s.size := by simp
        simp only [isNum, ha, Bool.and_true, Bool.and_eq_true, decide_eq_true_eq, hl]
        omega
      have hz : nv 0 (s.data.toList.take k) = numOf s.data.toList := by rw [numOf, hfin, hke]; rfl
      have HF := hide hfin
      have HZ := hide hz
      clear hke hfin hz ha
      go_wp2
      go_ret2
      exact ⟨by rw [unhide HF, unhide HZ]; rfl, rfl⟩

theorem number_any (s : ByteArray) (w : World) (hs : s.size ≤ maxLen) :
    Calls Tryd.prog 13 #[.string s] w fun e w' => e = .returned (.tuple #[.int .i64 (numOf s.data.toList), .bool (isNum s.data.toList)]) ∧ w' = w := by
  by_cases h : 1 ≤ s.size ∧ s.size ≤ 9
  · exact number_walk s w h.1 h.2
  · have hn : isNum s.data.toList = false := by
      have hl : s.data.toList.length = s.size := by simp
      simp only [isNum, Bool.and_eq_false_iff, decide_eq_false_iff_not, hl]
      left
      omega
    have hz : numOf s.data.toList = 0 := by rw [numOf, hn]; rfl
    rw [hn, hz]
    exact number_len s w (by omega) hs
end Go.Proofs.YtnhheljgjemfoaaDoor
