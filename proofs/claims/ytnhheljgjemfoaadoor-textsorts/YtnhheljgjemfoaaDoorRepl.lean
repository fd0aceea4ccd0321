/- The contracts of text.places, text.Replace at a from that is not empty, text.Find and text.Decimal. -/
import Derived.Test.YtnhheljgjemfoaaDoorWords
namespace Go.Proofs.YtnhheljgjemfoaaDoor
open Go.RowKit Go.Shelf
/-- what the library's variable MaxLen holds: some number -/
def Mx (w : World) : Prop := ∃ m, w.cell? ⟨0, 0, none⟩ = some (.int .i64 m)
theorem Mx.below {w w' : World} {B : Nat} (h : Mx w) (hb : Below B w w') (hB : 0 < B) : Mx w' := by
  obtain ⟨m, hm⟩ := h
  exact ⟨m, (hb.cell (p := ⟨0, 0, none⟩) hB).trans hm⟩
theorem not_empty (f : ByteArray) (h1 : 1 ≤ f.size) : f.toList.isEmpty = false := by
  rw [Lib.toList_data]
  have := Lib.size_eq f
  cases h : f.data.toList with
  | nil => rw [h, List.length_nil] at this; omega
  | cons a b => rfl
theorem places_some (s f : ByteArray) (w : World) (hs : s.size ≤ 100000) (h1 : 1 ≤ f.size) (hm : Mx w) :
    Calls Tryd.prog 21 #[.string s, .string f] w fun e w' => e = .returned (.int .i64 (Lib.countB s f)) ∧ w' = w := by
  obtain ⟨m, hm⟩ := hm
  have hne := not_empty f h1
  go_enter Tryd.func21, Tryd.ntmps21
  go_wp2_with (go_at_call 30; refine (Tryd.strings_Count_any _ _ m _ (by omega) hm h1).mono ?_; rintro e w' ⟨rfl, rfl⟩)
  go_ret
  exact ⟨rfl, rfl⟩
/-- how many bytes there would be -/
def rlen (s f t : ByteArray) : Int := (s.size : Int) + (Lib.countB s f : Int) * ((t.size : Int) - (f.size : Int))
def rtxt (s f t : ByteArray) : ByteArray := ⟨(Lib.replaceAll s.data.toList f.data.toList t.data.toList).toArray⟩
theorem mul_bd (c a : Int) (hc0 : 0 ≤ c) (hc : c ≤ 100000) (ha0 : -100000 ≤ a) (ha : a ≤ 100000) : -10000000000 ≤ c * a ∧ c * a ≤ 10000000000 := by
  constructor
  · have h1 : c * (-100000) ≤ c * a := Int.mul_le_mul_of_nonneg_left ha0 hc0
    omega
  · have h1 : c * a ≤ c * 100000 := Int.mul_le_mul_of_nonneg_left ha hc0
    omega
theorem replace_long (s f t : ByteArray) (w : World) (hs : s.size ≤ 100000) (hf : f.size ≤ 100000) (ht : t.size ≤ 100000) (h1 : 1 ≤ f.size) (hm : Mx w) (hl : 65536 < rlen s f t) :
    Calls Tryd.prog 12 #[.string s, .string f, .string t] w fun e w' => e = .returned (.tuple #[.string ⟨#[]⟩, .int .i64 2]) ∧ w' = w := by
  have hc := Lib.countB_le f h1 _ s (Nat.le_refl _)
  have kp := fun w => places_some s f w hs h1
  unfold rlen at hl
  obtain ⟨c, hcc⟩ : ∃ c, c = Lib.countB s f := ⟨_, rfl⟩
  rw [← hcc] at hl hc kp
  clear hcc
  have hb := mul_bd c ((t.size : Int) - f.size) (by omega) (by omega) (by omega) (by omega)
  go_enter Tryd.func12, Tryd.ntmps12
  go_wp2_with (go_at_call 21; refine (kp _ hm).mono ?_; rintro e w' ⟨rfl, rfl⟩)
  go_ret2
  exact ⟨rfl, rfl⟩
set_option maxHeartbeats 400000 in
theorem replace_some (s f t : ByteArray) (w : World) (hs : s.size ≤ 100000) (hf : f.size ≤ 100000) (ht : t.size ≤ 100000) (h1 : 1 ≤ f.size) (hm : Mx w) (hl : rlen s f t ≤ 65536) (hsz : (rtxt s f t).size ≤ 281474976710656) :
    Calls Tryd.prog 12 #[.string s, .string f, .string t] w fun e w' => e = .returned (.tuple #[.string (rtxt s f t), .int .i64 0]) ∧ Below w.heap.size w w' := by
  have hc := Lib.countB_le f h1 _ s (Nat.le_refl _)
  have kp := fun w => places_some s f w hs h1
  have hlen : s.size + Lib.countB s f * t.size ≤ 140737488355328 := by
    have : Lib.countB s f * t.size ≤ 100000 * 100000 := Nat.mul_le_mul (by omega) ht
    omega
  have kr : ∀ w, Mx w → Calls Tryd.prog 24 #[.string s, .string f, .string t] w fun e w' => e = .returned (.string (rtxt s f t)) ∧ Below w.heap.size w w' := fun w ⟨m, hm⟩ => Tryd.strings_ReplaceAll s f t m w (by omega) hm h1 hlen
  unfold rlen at hl
  generalize rtxt s f t = r at kr hsz ⊢
  obtain ⟨c, hcc⟩ : ∃ c, c = Lib.countB s f := ⟨_, rfl⟩
  rw [← hcc] at hl hc kp
  clear hcc hlen
  have hb := mul_bd c ((t.size : Int) - f.size) (by omega) (by omega) (by omega) (by omega)
  have hne := not_empty f h1
  go_enter Tryd.func12, Tryd.ntmps12
  go_wp2_with (first | (go_at_call 21; refine (kp _ hm).mono ?_; rintro e w' ⟨rfl, rfl⟩) | (go_at_call 24; refine (kr _ hm).mono ?_; rintro e w1 ⟨rfl, hb1⟩) | (go_at_call 23; refine (clone_any _ _ hsz).mono ?_; rintro e w2 ⟨rfl, hb2⟩))
  go_ret2
  exact ⟨rfl, hb1.trans (hb2.mono hb1.size)⟩
theorem below_grow (w : World) (k : Nat) (os : Array Obj) : Below w.heap.size w (Go.Sort.grow (w.drewN k) os) := by
  refine (below_drewN (Below.refl _ w) k).trans ⟨rfl, rfl, rfl, by simp [Go.Sort.grow], fun j hj => ?_⟩
  simp only [Go.Sort.grow]
  rw [Array.getElem?_append_left]
  exact Nat.lt_of_lt_of_le hj (below_drewN (Below.refl w.heap.size w) k).size
theorem decimal_any (n : Int) (h0 : -9223372036854775808 ≤ n) (h1 : n ≤ 9223372036854775807) (w : World) (htab : Lib.TabIs Tryd.prog w "internal/strconv.uint64pow10" .u64 Lib.pow10Tab) :
    Calls Tryd.prog 15 #[.int .i64 n] w fun e w' => e = .returned (.string ⟨(Lib.itoa n).toArray⟩) ∧ Below w.heap.size w w' := by
  go_enter Tryd.func15, Tryd.ntmps15
  go_wp2_with (go_at_call 26; refine (Tryd.strconv_Itoa n h0 h1 _ htab).mono ?_; rintro e w' ⟨rfl, k, os, rfl⟩)
  go_ret
  exact ⟨rfl, below_grow _ _ _⟩
end Go.Proofs.YtnhheljgjemfoaaDoor
