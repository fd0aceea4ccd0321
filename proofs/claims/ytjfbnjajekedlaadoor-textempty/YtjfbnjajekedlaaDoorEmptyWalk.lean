/- The contract of the law TextEmpty: it answers true whatever the two texts are. -/
import Derived.Test.YtjfbnjajekedlaaDoorAlive
namespace Go.Proofs.YtjfbnjajekedlaaDoor
open Go.RowKit Go.Shelf

theorem rtxt_same (s f : ByteArray) : rtxt s f f = s := by
  simp [rtxt, Lib.replaceAll, Lib.replace]
theorem rlen_same (s f : ByteArray) : rlen s f f = s.size := by simp [rlen]
theorem rlen_none (s f : ByteArray) : rlen s f ⟨#[]⟩ ≤ s.size := by
  unfold rlen
  have h : (Lib.countB s f : Int) * (((⟨#[]⟩ : ByteArray).size : Int) - f.size) ≤ (Lib.countB s f : Int) * 0 := Int.mul_le_mul_of_nonneg_left (by show (0 : Int) - f.size ≤ 0; omega) (by omega)
  omega
theorem rtxt_miss (s f t : ByteArray) (h : Lib.index s.data.toList f.data.toList = -1) : rtxt s f t = s := by
  have hc : Lib.count s.data.toList f.data.toList = 0 := Lib.count_miss h
  simp only [rtxt, Lib.replaceAll, Lib.replace, Lib.replaceNum, hc]
  split <;> simp [Lib.replaceK]
theorem replaceK_short (f : List UInt8) (k : Nat) : ∀ s : List UInt8, (Lib.replaceK f [] k s).length ≤ s.length := by
  induction k with
  | zero => intro s; exact Nat.le_refl _
  | succ k ih =>
    intro s
    unfold Lib.replaceK
    split
    · exact Nat.le_refl _
    · have := ih (s.drop ((Lib.index s f).toNat + f.length))
      simp only [List.append_nil, List.length_append, List.length_take, List.length_drop] at this ⊢
      omega
theorem rtxt_short (s f : ByteArray) : (rtxt s f ⟨#[]⟩).size ≤ s.size := by
  rw [Lib.size_eq, Lib.size_eq]
  show (Lib.replaceAll s.data.toList f.data.toList []).length ≤ _
  unfold Lib.replaceAll Lib.replace
  split
  · exact Nat.le_refl _
  · exact replaceK_short _ _ _

set_option maxHeartbeats 400000 in
theorem empty_short (s f : ByteArray) (w : World) (h : Env w) (hs : 20000 < s.size) (hm : s.size ≤ maxLen) :
    Calls Tryd.prog 8 #[.string s, .string f] w fun e w' => e = .returned (.bool true) ∧ Below w.heap.size w w' := by
  unfold maxLen at hm
  go_enter Tryd.func8, Tryd.ntmps8
  go_wp2_with (go_at_call 9; refine (alive_any _ h).mono ?_; rintro e w1 ⟨rfl, hb1⟩)
  go_ret
  exact ⟨rfl, hb1⟩

set_option maxHeartbeats 400000 in
theorem empty_short2 (s f : ByteArray) (w : World) (h : Env w) (hs : s.size ≤ 20000) (hf : 20000 < f.size) (hm : f.size ≤ maxLen) :
    Calls Tryd.prog 8 #[.string s, .string f] w fun e w' => e = .returned (.bool true) ∧ Below w.heap.size w w' := by
  unfold maxLen at hm
  go_enter Tryd.func8, Tryd.ntmps8
  go_wp2_with (go_at_call 9; refine (alive_any _ h).mono ?_; rintro e w1 ⟨rfl, hb1⟩)
  go_ret
  exact ⟨rfl, hb1⟩

set_option maxHeartbeats 400000 in
theorem empty_short3 (s : ByteArray) (w : World) (h : Env w) (hs : s.size ≤ 20000) :
    Calls Tryd.prog 8 #[.string s, .string ⟨#[]⟩] w fun e w' => e = .returned (.bool true) ∧ Below w.heap.size w w' := by
  go_enter Tryd.func8, Tryd.ntmps8
  go_wp2_with (go_at_call 9; refine (alive_any _ h).mono ?_; rintro e w1 ⟨rfl, hb1⟩)
  go_ret
  exact ⟨rfl, hb1⟩

set_option maxHeartbeats 400000 in
theorem empty_main (s f : ByteArray) (w : World) (h : Env w) (hs : s.size ≤ 20000) (hf : f.size ≤ 20000) (h1 : 1 ≤ f.size) :
    Calls Tryd.prog 8 #[.string s, .string f] w fun e w' => e = .returned (.bool true) ∧ Below w.heap.size w w' := by
  have hne := not_empty f h1
  have kA : ∀ w, Mx w → Calls Tryd.prog 21 #[.string s, .string f, .string f] w fun e w' => e = .returned (.tuple #[.string s, .int .i64 0]) ∧ Below w.heap.size w w' := fun w hm => by
    have := replace_some s f f w (by omega) (by omega) (by omega) h1 hm (by rw [rlen_same]; omega) (by rw [rtxt_same]; omega)
    rwa [rtxt_same] at this
  have hsh := rtxt_short s f
  have kB : ∀ w, Mx w → Calls Tryd.prog 21 #[.string s, .string f, .string ⟨#[]⟩] w fun e w' => e = .returned (.tuple #[.string (rtxt s f ⟨#[]⟩), .int .i64 0]) ∧ Below w.heap.size w w' := fun w hm =>
    replace_some s f ⟨#[]⟩ w (by omega) (by omega) (by show 0 ≤ 100000; omega) h1 hm (by have := rlen_none s f; omega) (by omega)
  have kF : ∀ w, Mx w → Calls Tryd.prog 24 #[.string s, .string f] w fun e w' => e = .returned (.int .i64 (Lib.index s.data.toList f.data.toList)) ∧ w' = w := fun w hm => find_any s f w (by omega) hm
  have hmiss := rtxt_miss s f ⟨#[]⟩
  have hge := Lib.index_ge s.data.toList f.data.toList
  generalize rtxt s f ⟨#[]⟩ = r at hsh kB hmiss
  generalize Lib.index s.data.toList f.data.toList = i at kF hmiss hge
  by_cases hi : 0 ≤ i
  · clear hmiss
    go_enter Tryd.func8, Tryd.ntmps8
    go_wp2_with fail
    refine (alive_any _ h).mono ?_
    rintro e w1 ⟨rfl, hb1⟩
    have e1 := h.below hb1
    go_wp2_with fail
    refine (kA _ e1.mx).mono ?_
    rintro e w2 ⟨rfl, hb2⟩
    have e2 := e1.below hb2
    go_wp2_with fail
    refine (kB _ e2.mx).mono ?_
    rintro e w3 ⟨rfl, hb3⟩
    have e3 := e2.below hb3
    have hb : Below w.heap.size w w3 := (hb1.trans (hb2.mono hb1.size)).trans (hb3.mono (Nat.le_trans hb1.size hb2.size))
    clear hb1 hb2 hb3 e1 e2
    go_wp2_with (first | (go_at_call 23; refine (num_any _ _).mono ?_; rintro e w' ⟨rfl, rfl⟩) | (go_at_call 24; refine (kF _ e3.mx).mono ?_; rintro e w' ⟨rfl, rfl⟩))
    go_ret
    exact ⟨rfl, hb⟩
  · have hr : r = s := hmiss (by omega)
    subst hr
    clear hmiss hsh
    go_enter Tryd.func8, Tryd.ntmps8
    go_wp2_with fail
    refine (alive_any _ h).mono ?_
    rintro e w1 ⟨rfl, hb1⟩
    have e1 := h.below hb1
    go_wp2_with fail
    refine (kA _ e1.mx).mono ?_
    rintro e w2 ⟨rfl, hb2⟩
    have e2 := e1.below hb2
    go_wp2_with fail
    refine (kB _ e2.mx).mono ?_
    rintro e w3 ⟨rfl, hb3⟩
    have e3 := e2.below hb3
    have hb : Below w.heap.size w w3 := (hb1.trans (hb2.mono hb1.size)).trans (hb3.mono (Nat.le_trans hb1.size hb2.size))
    clear hb1 hb2 hb3 e1 e2
    go_wp2_with (first | (go_at_call 23; refine (num_any _ _).mono ?_; rintro e w' ⟨rfl, rfl⟩) | (go_at_call 24; refine (kF _ e3.mx).mono ?_; rintro e w' ⟨rfl, rfl⟩))
    go_ret
    exact ⟨rfl, hb⟩

theorem empty_any (s f : ByteArray) (w : World) (h : Env w) (hs : s.size ≤ maxLen) (hf : f.size ≤ maxLen) :
    Calls Tryd.prog 8 #[.string s, .string f] w fun e w' => e = .returned (.bool true) ∧ Below w.heap.size w w' := by
  by_cases h1 : s.size ≤ 20000
  · by_cases h2 : f.size ≤ 20000
    · by_cases h3 : 1 ≤ f.size
      · exact empty_main s f w h h1 h2 h3
      · have e : f = ⟨#[]⟩ := by
          have hz : f.data.size = 0 := by have : f.data.size = f.size := rfl; omega
          obtain ⟨d⟩ := f
          exact congrArg ByteArray.mk (Array.eq_empty_of_size_eq_zero hz)
        subst e
        exact empty_short3 s w h h1
    · exact empty_short2 s f w h h1 (by omega) hf
  · exact empty_short s f w h (by omega) hs
end Go.Proofs.YtjfbnjajekedlaaDoor
