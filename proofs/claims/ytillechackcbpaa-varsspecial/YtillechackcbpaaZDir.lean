/- The contracts of vars.directory and anvilref1.Index. -/
import Derived.Test.YtillechackcbpaaYParts
import Derived.Test.YtillechackcbpaaXRefJoin
import Derived.Test.YtillechackcbpaaDo
namespace Go.Proofs.Ytillechackcbpaa.Sp
open Go.RowKit Go.Shelf Go.Proofs.Ytillechackcbpaa.Pa

theorem lpd_at (c : UInt8) (l : List UInt8) : ∀ k, lpd c l k = 0 ∨ l.getD (lpd c l k - 1) 0 = c
  | 0 => .inl rfl
  | k + 1 => by
    unfold lpd
    split
    · next h => exact .inr h
    · exact lpd_at c l k
theorem dir_last (l : List UInt8) : ∃ q, dir l = q ++ [47] ∧ q.length ≤ l.length + 1 := by
  unfold dir
  split
  · exact ⟨[46], rfl, by simp⟩
  · next h =>
    have h1 := (lpd_at 47 l l.length).resolve_left h
    have h2 := lp_le 47 l
    obtain ⟨k, hk⟩ : ∃ k, lp 47 l = k + 1 := ⟨lp 47 l - 1, by omega⟩
    rw [hk] at h2 ⊢
    have h1' : l.getD k 0 = 47 := by
      have : lpd 47 l l.length = k + 1 := hk
      rw [this] at h1
      exact h1
    refine ⟨l.take k, ?_, by rw [List.length_take]; omega⟩
    rw [List.getD_eq_getElem?_getD, List.getElem?_eq_getElem (by omega)] at h1'
    have h3 : l[k]? = some 47 := by rw [List.getElem?_eq_getElem (by omega)]; exact congrArg some h1'
    rw [List.take_add_one, h3]
    rfl
/-- the directory of a word without its last slash, but for that of the root -/
def dirP (l : List UInt8) : List UInt8 := if dir l = [47] then [47] else (dir l).dropLast
theorem dirP_len (l : List UInt8) : (dirP l).length ≤ l.length + 1 := by
  obtain ⟨q, hq, hl⟩ := dir_last l
  unfold dirP
  split
  · simp
  · rw [hq, List.dropLast_concat]; exact hl
theorem trim_dir (q : List UInt8) : Lib.trimSuffix (q ++ [47]) [47] = q := by
  unfold Lib.trimSuffix Lib.hasSuffix
  rw [if_pos (by simp)]
  simp
theorem notDir_len (l : List UInt8) : (notDir l).length ≤ l.length := by unfold notDir; rw [List.length_drop]; omega
set_option maxHeartbeats 400000 in
theorem directory_any (s : ByteArray) (w : World) (hs : s.size ≤ 1000000) :
    Calls Try.prog 37 #[.string s] w fun e w' => e = .returned (.string (mk (dirP (tl s)))) ∧ Below w.heap.size w w' := by
  have hd := dir_any s w hs
  obtain ⟨q, hq, hl⟩ := dir_last (tl s)
  unfold dirP
  rw [hq] at hd ⊢
  by_cases h0 : q = []
  · subst h0
    rw [if_pos (show ([] ++ [47] : List UInt8) = [47] from rfl)]
    have hd : Calls Try.prog 53 #[.string s] w fun e w' => e = .returned (.string ⟨#[47]⟩) ∧ Below w.heap.size w w' := hd
    clear hq hl
    go_enter Try.func37, Try.ntmps37
    go_wp2_with fail
    refine hd.mono ?_
    rintro e w1 ⟨rfl, hb⟩
    go_wp2
    go_ret
    exact ⟨rfl, hb⟩
  · rw [if_neg (by intro e; exact h0 (by simpa using e)), List.dropLast_concat]
    have hne : ((mk (q ++ [47])).toList == [47]) = false := by
      rw [mk_toList]
      refine beq_eq_false_iff_ne.2 fun e => h0 (by simpa using e)
    have hz : (mk (q ++ [47])).size ≤ 9223372036854775807 := by
      rw [mk_size, List.length_append]; rw [tl_len] at hl; simp; omega
    have ht : ∀ W, Calls Try.prog 54 #[.string (mk (q ++ [47])), .string ⟨#[47]⟩] W fun e w' => e = .returned (.string (mk q)) ∧ w' = W := fun W => by
      have := Try.strings_TrimSuffix (mk (q ++ [47])) ⟨#[47]⟩ W hz
      rwa [show (mk (q ++ [47])).data.toList = q ++ [47] from tl_mk _, show (⟨#[47]⟩ : ByteArray).data.toList = [47] from rfl, trim_dir] at this
    generalize mk (q ++ [47]) = d at hd hne ht
    generalize mk q = r at ht ⊢
    clear hq hl h0 hz
    go_enter Try.func37, Try.ntmps37
    go_wp2_with fail
    refine hd.mono ?_
    rintro e w1 ⟨rfl, hb⟩
    go_wp2_with fail
    refine (ht _).mono ?_
    rintro e w2 ⟨rfl, rfl⟩
    go_wp2
    go_ret
    exact ⟨rfl, hb⟩
/-- is the byte one of the eight? -/
def isAuto (c : UInt8) : Bool := [64, 37, 60, 63, 94, 43, 42, 124].contains c
theorem contains_auto (c : UInt8) (w : World) :
    Calls Try.prog 35 #[.string ⟨#[64, 37, 60, 63, 94, 43, 42, 124]⟩, .string ⟨#[c]⟩] w fun e w' => e = .returned (.bool (isAuto c)) ∧ w' = w := by
  have := Try.strings_Contains_one ⟨#[64, 37, 60, 63, 94, 43, 42, 124]⟩ c w
  have h : (decide (0 ≤ Lib.indexByte (⟨#[64, 37, 60, 63, 94, 43, 42, 124]⟩ : ByteArray).data.toList c)) = isAuto c := by
    show (decide (0 ≤ Lib.indexByte [64, 37, 60, 63, 94, 43, 42, 124] c)) = isAuto c
    have : ∀ n : Fin 256, (decide (0 ≤ Lib.indexByte [64, 37, 60, 63, 94, 43, 42, 124] (UInt8.ofNat n.val))) = isAuto (UInt8.ofNat n.val) := by decide +kernel
    have := this ⟨c.toNat, c.toNat_lt⟩
    rwa [UInt8.ofNat_toNat] at this
  rwa [h] at this
end Go.Proofs.Ytillechackcbpaa.Sp
