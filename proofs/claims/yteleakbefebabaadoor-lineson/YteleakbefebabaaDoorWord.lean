/- Texts as lists; the contracts of lines.open and anvilref10.slashes: backslashes are counted from the end. -/
import Derived.Test.YteleakbefebabaaDoorProg
import Derived.WalkKit
import Derived.WalkSpells
import Derived.WalkLawsBesides
import Derived.WalkMore
import Derived.BigQuiet
import Derived.Lib.IndexBytes
import Derived.Test.YteleakbefebabaaDoorPlain
namespace Go.Proofs.YteleakbefebabaaDoor
open Go.RowKit

theorem hide' {p : Prop} (h : p) : Hid p := h
def tl (x : ByteArray) : List UInt8 := x.data.toList
abbrev mk (l : List UInt8) : ByteArray := ⟨l.toArray⟩
theorem tl_len (s : ByteArray) : (tl s).length = s.size := (Lib.size_eq s).symm
theorem getD_at (s : ByteArray) (k : Nat) (h : k < s.size) : (tl s).getD k 0 = s[k] := by
  unfold tl
  rw [List.getD_eq_getElem?_getD, List.getElem?_eq_getElem (by simpa using h)]; rfl
theorem tl_inj (a b : ByteArray) (h : tl a = tl b) : a = b := by
  obtain ⟨⟨a⟩⟩ := a
  obtain ⟨⟨b⟩⟩ := b
  exact congrArg (fun l : List UInt8 => ByteArray.mk ⟨l⟩) h
theorem tl_mk (l : List UInt8) : tl (mk l) = l := by simp [tl]
theorem mk_tl (s : ByteArray) : mk (tl s) = s := tl_inj _ _ (tl_mk _)
theorem mk_size (l : List UInt8) : (mk l).size = l.length := by rw [← tl_len, tl_mk]
theorem ext_mk (s : ByteArray) (a b : Nat) : s.extract a b = mk (((tl s).drop a).take (b - a)) := tl_inj _ _ (by rw [tl_mk]; exact Lib.extract_data s a b)
theorem ext_drop (s : ByteArray) (a : Nat) : s.extract a s.size = mk ((tl s).drop a) := by
  rw [ext_mk, List.take_of_length_le (by rw [List.length_drop, tl_len]; omega)]
theorem ext_take (s : ByteArray) (b : Nat) : s.extract 0 b = mk ((tl s).take b) := by rw [ext_mk]; simp
theorem drop_at (s : ByteArray) (k : Nat) (h : k < s.size) : (tl s).drop k = s[k] :: (tl s).drop (k + 1) := by
  rw [← getD_at s k h, List.drop_eq_getElem_cons (by rw [tl_len]; exact h), List.getD_eq_getElem?_getD, List.getElem?_eq_getElem (by rw [tl_len]; exact h)]; rfl
theorem take_at (s : ByteArray) (k : Nat) (h : k < s.size) : (tl s).take (k + 1) = (tl s).take k ++ [s[k]] := by
  rw [← getD_at s k h, List.take_succ_eq_append_getElem (by rw [tl_len]; exact h), List.getD_eq_getElem?_getD, List.getElem?_eq_getElem (by rw [tl_len]; exact h)]; rfl
theorem take_all (s : ByteArray) : (tl s).take s.size = tl s := by rw [← tl_len, List.take_length]
theorem drop_all (s : ByteArray) : (tl s).drop s.size = [] := by rw [← tl_len, List.drop_length]
theorem beq_no (a c : UInt8) (cn : Nat) (hcn : c.toNat = cn) (h : ¬ a = c) : ((a.toNat : Int) == (cn : Int)) = false := beq_eq_false_iff_ne.2 fun e => h (UInt8.toNat_inj.1 (by omega))
theorem beq_yes (a c : UInt8) (cn : Nat) (hcn : c.toNat = cn) (h : a = c) : ((a.toNat : Int) == (cn : Int)) = true := by rw [h, hcn]; simp
theorem ret_int {a b : Int} (h : a = b) : Ending.returned (.int .i64 a) = .returned (.int .i64 b) := by rw [h]
theorem ret_str {a b : ByteArray} (h : a = b) : Ending.returned (.string a) = .returned (.string b) := by rw [h]
theorem ret_bool {a b : Bool} (h : a = b) : Ending.returned (.bool a) = .returned (.bool b) := by rw [h]
theorem below_drewn {B : Nat} {w : World} (q : Nat) : Below B w (w.drewN q) := ⟨rfl, rfl, rfl, Nat.le_refl _, fun _ _ => rfl⟩

theorem nb_hit (s : ByteArray) (k : Nat) (h : k < s.size) (h1 : s[k] = 92) : nb ((tl s).take (k + 1)) = nb ((tl s).take k) + 1 := by rw [take_at s k h, h1, nb_yes]
theorem nb_miss (s : ByteArray) (k : Nat) (h : k < s.size) (h1 : ¬ s[k] = 92) : nb ((tl s).take (k + 1)) = 0 := by rw [take_at s k h, nb_no _ _ h1]

theorem odd_of (n : Nat) : ((n : Int) % 2 == 1) = (n % 2 == 1) := by
  rcases Nat.mod_two_eq_zero_or_one n with h | h
  · rw [show (n : Int) % 2 = 0 by omega, h]; rfl
  · rw [show (n : Int) % 2 = 1 by omega, h]; rfl

set_option maxHeartbeats 1000000 in
theorem open_any (s : ByteArray) (w : World) (hs : s.size ≤ 1000000) :
    Calls Tryd.prog 16 #[.string s] w fun e w' => e = .returned (.bool (opn (tl s))) ∧ w' = w := by
  go_enter Tryd.func16, Tryd.ntmps16
  go_wp2
  go_step3
  go_wp2
  go_step3
  go_wp2
  go_loop [3] (fun i => ∃ k n : Nat, k + n = s.size ∧ i = .int .i64 n ∧ Hid (nb (tl s) = n + nb ((tl s).take k))) (fun i => s.size - (intOf i).toNat)
  case atStart => exact ⟨s.size, 0, rfl, rfl, by show _ = _; rw [take_all]; omega⟩
  case round =>
    obtain ⟨k, n, hkn, rfl, HK⟩ := hrel
    have HO : Hid (((n : Int) % 2 == 1) = (n % 2 == 1)) := odd_of n
    cases k with
    | zero =>
      have hfin : opn (tl s) = (n % 2 == 1) := by
        unfold opn
        rw [HK.out, List.take_zero, nb_nil, Nat.add_zero]
      have HF := hide' hfin
      clear hfin HK
      obtain rfl : n = s.size := by omega
      go_wp2
      go_ret
      exact ⟨ret_bool (HO.out.trans HF.out.symm), rfl⟩
    | succ k =>
      have hlt : k < s.size := by omega
      obtain rfl : k = s.size - 1 - n := by omega
      by_cases h1 : s[s.size - 1 - n] = 92
      · have k1 := beq_yes s[s.size - 1 - n] 92 92 rfl h1
        have HK' : Hid (nb (tl s) = (n + 1) + nb ((tl s).take (s.size - 1 - n))) := by
          show _ = _
          rw [HK.out, nb_hit s _ hlt h1]; omega
        clear h1 HK HO
        go_wp2
        exact ⟨⟨s.size - 1 - n, n + 1, by omega, by go_num, HK'⟩, by simp [intOf]; omega⟩
      · have k1 := beq_no s[s.size - 1 - n] 92 92 rfl h1
        have hfin : opn (tl s) = (n % 2 == 1) := by
          unfold opn
          rw [HK.out, nb_miss s _ hlt h1, Nat.add_zero]
        have HF := hide' hfin
        clear hfin HK h1
        go_wp2
        dsimp only [Exit.noGoto]
        go_ret
        exact ⟨ret_bool (HO.out.trans HF.out.symm), rfl⟩

theorem slashes_any (s : ByteArray) (m : Nat) (w : World) (hs : s.size ≤ 1000000) (hm : m ≤ s.size) :
    Calls Tryd.prog 19 #[.string s, .int .i64 m] w fun e w' => e = .returned (.int .i64 (nb ((tl s).take m))) ∧ w' = w := by
  go_enter Tryd.func19, Tryd.ntmps19
  go_wp2
  go_loop [5] (fun i => ∃ k n : Nat, k + n = m ∧ i = .int .i64 n ∧ Hid (nb ((tl s).take m) = n + nb ((tl s).take k))) (fun i => m - (intOf i).toNat)
  case atStart => exact ⟨m, 0, rfl, rfl, by show _ = _; omega⟩
  case round =>
    obtain ⟨k, n, hkn, rfl, HK⟩ := hrel
    cases k with
    | zero =>
      have hfin : nb ((tl s).take m) = n := by rw [HK.out, List.take_zero, nb_nil, Nat.add_zero]
      have HF := hide' hfin
      clear hfin HK
      have d1 : ¬ ((0 : Int) ≤ (m : Int) - 1 - n) := by omega
      have d2 : decide ((0 : Int) ≤ (m : Int) - 1 - n) = false := decide_eq_false d1
      go_wp2
      go_ret
      exact ⟨ret_int (by rw [HF.out]), rfl⟩
    | succ k =>
      have hlt : k < s.size := by omega
      obtain rfl : k = m - 1 - n := by omega
      have d1 : (0 : Int) ≤ (m : Int) - 1 - n := by omega
      have d2 : decide ((0 : Int) ≤ (m : Int) - 1 - n) = true := decide_eq_true d1
      by_cases h1 : s[m - 1 - n] = 92
      · have k1 := beq_yes s[m - 1 - n] 92 92 rfl h1
        have HK' : Hid (nb ((tl s).take m) = (n + 1) + nb ((tl s).take (m - 1 - n))) := by
          show _ = _
          rw [HK.out, nb_hit s _ hlt h1]; omega
        clear h1 HK
        go_wp2
        exact ⟨⟨m - 1 - n, n + 1, by omega, by go_num, HK'⟩, by simp [intOf]; omega⟩
      · have k1 := beq_no s[m - 1 - n] 92 92 rfl h1
        have hfin : nb ((tl s).take m) = n := by rw [HK.out, nb_miss s _ hlt h1, Nat.add_zero]
        have HF := hide' hfin
        clear hfin HK h1
        go_wp2
        go_ret
        exact ⟨ret_int (by rw [HF.out]), rfl⟩
end Go.Proofs.YteleakbefebabaaDoor
