/- The contracts of strings.TrimLeft at the blanks, of anvilref1.Blank and anvilref1.Left. -/
import Derived.Test.YthkjinhnnilalaaGreatDoorPlain
import Derived.Test.YthkjinhnnilalaaGreatDoorShelf
import Derived.Shelf.Strings.SlTrimAscii
namespace Go.Proofs.YthkjinhnnilalaaGreatDoor
open Go.RowKit Go.Shelf

theorem bl_has (b : UInt8) : ([32, 9, 10] : List UInt8).contains b = bl b := by
  rw [Bool.eq_iff_iff]
  constructor
  · intro h
    have : b = 32 ∨ b = 9 ∨ b = 10 := by simpa using h
    rcases this with rfl | rfl | rfl <;> rfl
  · intro h
    rcases bl_yes b h with rfl | rfl | rfl <;> rfl
theorem small3 : ∀ (j : Nat) b, (⟨#[32, 9, 10]⟩ : ByteArray).data.toList[j]? = some b → b.toNat < 128 := by
  intro j b h
  have hm : b ∈ ([32, 9, 10] : List UInt8) := List.mem_of_getElem? h
  rcases (by simpa using hm : b = 32 ∨ b = 9 ∨ b = 10) with rfl | rfl | rfl <;> decide
theorem info75 : (Tryz.prog.info? 64).map (fun i : TypeInfo => (i.zero, i.size)) = some (some (.agg (Array.replicate 256 (.bool false))), 256) := by kernel_rfl
theorem trimL_any (s : ByteArray) (w : World) : Calls Tryz.prog 18 #[.string s, .string ⟨#[32, 9, 10]⟩] w fun e w' => e = .returned (.string (mk ((tl s).dropWhile bl))) ∧ Below w.heap.size w w' := by
  have e1 : Lib.trimLeftS (tl s) [32, 9, 10] = (tl s).dropWhile bl := by
    unfold Lib.trimLeftS
    congr 1
    funext b
    exact bl_has b
  have := Any.strings_TrimLeft_laid Tryz.lays161 info75 s ⟨#[32, 9, 10]⟩ w (by decide) small3
  rw [← e1]
  exact this
end Go.Proofs.YthkjinhnnilalaaGreatDoor
