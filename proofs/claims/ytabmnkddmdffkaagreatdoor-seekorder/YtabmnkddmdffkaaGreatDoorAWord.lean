/- Texts as lists of bytes. -/
import Derived.Test.YtabmnkddmdffkaaGreatDoorProg
import Derived.WalkKit
import Derived.WalkSpells
import Derived.WalkLawsBesides
import Derived.WalkMore
import Derived.Lib.Strings
import Derived.Lib.IndexBytes
import Derived.Test.YtabmnkddmdffkaaGreatDoorAPlain
namespace Go.Proofs.YtabmnkddmdffkaaGreatDoor
open Go.RowKit

theorem hide' {p : Prop} (h : p) : Hid p := h
def tl (x : ByteArray) : List UInt8 := x.data.toList
abbrev mk (l : List UInt8) : ByteArray := ⟨l.toArray⟩
theorem tl_len (s : ByteArray) : (tl s).length = s.size := (Lib.size_eq s).symm
theorem getD_at (s : ByteArray) (k : Nat) (h : k < s.size) : (tl s).getD k 0 = s[k] := by
  unfold tl
  rw [List.getD_eq_getElem?_getD, List.getElem?_eq_getElem (by simpa using h)]; rfl
theorem tl_inj (a b : ByteArray) (h : tl a = tl b) : a = b := by
  obtain ⟨⟨a⟩⟩ := a
  obtain ⟨⟨b⟩⟩ := b
  exact congrArg (fun l : List UInt8 => ByteArray.mk ⟨l⟩) h
theorem tl_mk (l : List UInt8) : tl (mk l) = l := by simp [tl]
theorem mk_tl (s : ByteArray) : mk (tl s) = s := tl_inj _ _ (tl_mk _)
theorem mk_size (l : List UInt8) : (mk l).size = l.length := by rw [← tl_len, tl_mk]
theorem ext_mk (s : ByteArray) (a b : Nat) : s.extract a b = mk (((tl s).drop a).take (b - a)) := tl_inj _ _ (by rw [tl_mk]; exact Lib.extract_data s a b)
theorem ext_drop (s : ByteArray) (a : Nat) : s.extract a s.size = mk ((tl s).drop a) := by
  rw [ext_mk, List.take_of_length_le (by rw [List.length_drop, tl_len]; omega)]
theorem ext_take (s : ByteArray) (b : Nat) : s.extract 0 b = mk ((tl s).take b) := by rw [ext_mk]; simp

theorem beq_no (a c : UInt8) (cn : Nat) (hcn : c.toNat = cn) (h : ¬ a = c) : ((a.toNat : Int) == (cn : Int)) = false := beq_eq_false_iff_ne.2 fun e => h (UInt8.toNat_inj.1 (by omega))
theorem beq_yes (a c : UInt8) (cn : Nat) (hcn : c.toNat = cn) (h : a = c) : ((a.toNat : Int) == (cn : Int)) = true := by rw [h, hcn]; simp
theorem ret_int {a b : Int} (h : a = b) : Ending.returned (.int .i64 a) = .returned (.int .i64 b) := by rw [h]

theorem ret_str {a b : ByteArray} (h : a = b) : Ending.returned (.string a) = .returned (.string b) := by rw [h]
theorem ret_bool {a b : Bool} (h : a = b) : Ending.returned (.bool a) = .returned (.bool b) := by rw [h]
end Go.Proofs.YtabmnkddmdffkaaGreatDoor
