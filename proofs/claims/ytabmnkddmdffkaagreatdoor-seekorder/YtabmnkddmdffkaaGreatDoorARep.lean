/- strings.ReplaceAll of a colon by a blank: each colon of the text turns into a blank. -/
import Derived.Test.YtabmnkddmdffkaaGreatDoorAXWords
import Derived.Test.YtabmnkddmdffkaaGreatDoorAWord
namespace Go.Proofs.YtabmnkddmdffkaaGreatDoor.Sk
open Go.RowKit Go.Shelf Tx

/-- a colon is a blank -/
def cmap (l : List UInt8) : List UInt8 := l.map fun c => if c = 58 then 32 else c
theorem prefix_one (b c : UInt8) (l : List UInt8) : [c].isPrefixOf (b :: l) = (c == b) := by simp [List.isPrefixOf]
theorem index_cons (b c : UInt8) (l : List UInt8) : Lib.index (b :: l) [c] = if c == b then 0 else if Lib.index l [c] == -1 then -1 else Lib.index l [c] + 1 := by
  rw [Lib.index, prefix_one]
theorem index_ge' (l : List UInt8) (c : UInt8) : -1 ≤ Lib.index l [c] := Lib.index_ge l [c]
theorem replace_ne (b : UInt8) (l : List UInt8) (h : b ≠ 58) : ∀ k, Lib.replaceK [58] [32] k (b :: l) = b :: Lib.replaceK [58] [32] k l := by
  intro k
  have hb : ((58 : UInt8) == b) = false := beq_eq_false_iff_ne.2 (Ne.symm h)
  have hg := index_ge' l 58
  cases k with
  | zero => rfl
  | succ k =>
    rw [Lib.replaceK, Lib.replaceK, index_cons, hb]
    simp only [Bool.false_eq_true, if_false]
    by_cases hm : Lib.index l [58] = -1
    · rw [hm]; rfl
    · have h1 : (Lib.index l [58] == -1) = false := beq_eq_false_iff_ne.2 hm
      have h2 : (Lib.index l [58] + 1 == -1) = false := beq_eq_false_iff_ne.2 (by omega)
      have h3 : (Lib.index l [58] + 1).toNat = (Lib.index l [58]).toNat + 1 := by omega
      rw [h1]
      simp only [Bool.false_eq_true, if_false]
      rw [h2]
      simp only [Bool.false_eq_true, if_false]
      rw [h3]
      simp only [List.take_succ_cons, List.cons_append]
      rw [show (Lib.index l [58]).toNat + 1 + [(58 : UInt8)].length = ((Lib.index l [58]).toNat + [(58 : UInt8)].length) + 1 by omega, List.drop_succ_cons]
theorem replace_eq (l : List UInt8) (k : Nat) : Lib.replaceK [58] [32] (k + 1) (58 :: l) = 32 :: Lib.replaceK [58] [32] k l := by
  rw [Lib.replaceK_hit _ _ _ _ 0 (by rw [index_cons]; rfl)]
  rfl
theorem replace_count (l : List UInt8) : Lib.replaceK [58] [32] (l.count 58) l = cmap l := by
  induction l with
  | nil => rfl
  | cons b r ih =>
    by_cases h : b = 58
    · subst h
      rw [List.count_cons_self, replace_eq, ih]
      rfl
    · rw [List.count_cons_of_ne (by simpa using h), replace_ne b r h, ih]
      simp [cmap, h]
theorem replaceAll_colon (l : List UInt8) : Lib.replaceAll l [58] [32] = cmap l := by
  unfold Lib.replaceAll Lib.replace Lib.replaceNum
  rw [if_neg (by decide), if_pos (Or.inl (by decide)), Lib.count_one]
  exact replace_count l
theorem cmap_len (l : List UInt8) : (cmap l).length = l.length := by simp [cmap]

/-- the variable of the library that a search for a text reads -/
def Mx (w : World) : Prop := ∃ m, w.cell? ⟨4, 0, none⟩ = some (.int .i64 m)
theorem Mx.keep {B : Nat} {w w' : World} (h : Mx w) (hb : Below B w w') (hB : 4 < B) : Mx w' := by
  obtain ⟨m, hm⟩ := h
  exact ⟨m, (hb.cell (p := ⟨4, 0, none⟩) hB).trans hm⟩
theorem colon_any (s : ByteArray) (hs : s.size ≤ 1000000) (w : World) (hm : Mx w) :
    Calls Tryz.prog 88 #[.string s, .string ⟨#[58]⟩, .string ⟨#[32]⟩] w fun e w' => e = .returned (.string (mk (cmap (tl s)))) ∧ Below w.heap.size w w' := by
  obtain ⟨m, hm⟩ := hm
  refine (Tryz.strings_ReplaceAll s ⟨#[58]⟩ ⟨#[32]⟩ m w (by omega) hm (by decide) ?_).mono ?_
  · have := Lib.countB_le ⟨#[58]⟩ (by decide) s.size s (Nat.le_refl _)
    have h1 : (⟨#[32]⟩ : ByteArray).size = 1 := rfl
    rw [h1]; omega
  · rintro e w' ⟨rfl, hb⟩
    refine ⟨?_, hb⟩
    rw [show (⟨#[58]⟩ : ByteArray).data.toList = [58] from rfl, show (⟨#[32]⟩ : ByteArray).data.toList = [32] from rfl, replaceAll_colon]
    rfl
end Go.Proofs.YtabmnkddmdffkaaGreatDoor.Sk
