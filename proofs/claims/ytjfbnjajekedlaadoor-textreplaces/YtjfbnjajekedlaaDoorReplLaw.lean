/- The contract of the law TextReplaces: it answers true whatever the three texts are. -/
import Derived.Test.YtjfbnjajekedlaaDoorRefRepl
import Derived.Test.YtjfbnjajekedlaaDoorGlue
import Derived.Test.YtjfbnjajekedlaaDoorAlive
namespace Go.Proofs.YtjfbnjajekedlaaDoor
open Go.RowKit Go.Shelf

theorem places_none (s : ByteArray) (w : World) :
    Calls Tryd.prog 38 #[.string s, .string ⟨#[]⟩] w fun e w' => e = .returned (.int .i64 1) ∧ w' = w := by
  go_enter Tryd.func38, Tryd.ntmps38
  go_wp2
  go_ret
  exact ⟨rfl, rfl⟩

theorem replace_none_long (s t : ByteArray) (w : World) (hs : s.size ≤ 100000) (ht : t.size ≤ 100000) (hl : 65536 < s.size + t.size) :
    Calls Tryd.prog 21 #[.string s, .string ⟨#[]⟩, .string t] w fun e w' => e = .returned (.tuple #[.string ⟨#[]⟩, .int .i64 2]) ∧ Below w.heap.size w w' := by
  go_enter Tryd.func21, Tryd.ntmps21
  go_wp2_with (go_at_call 38; refine (places_none _ _).mono ?_; rintro e w' ⟨rfl, rfl⟩)
  go_ret2
  exact ⟨rfl, Below.refl _ _⟩

theorem two_strs (w : World) (s t : ByteArray) : Strs (w.alloc (.cells #[.string s, .string t] 9)) (.slice (some ⟨w.heap.size, 0, none⟩) 2 2) [s, t] := by
  refine .inr ⟨w.heap.size, 0, 2, rfl, by simp, by decide, by simp, fun j hj => ?_⟩
  have hn : (w.alloc (.cells #[.string s, .string t] 9)).heap[w.heap.size]? = some (.cells #[.string s, .string t] 9 (0, 0)) := World.alloc_heap_new w _
  have hj' : j = 0 ∨ j = 1 := by simp at hj; omega
  rw [Lib.cell_of_heap hn]
  rcases hj' with rfl | rfl <;> rfl

theorem jr_two (s t : ByteArray) : (⟨(jr (tl ⟨#[]⟩) true [s, t]).toArray⟩ : ByteArray) = s ++ t := by
  have e : jr (tl ⟨#[]⟩) true [s, t] = tl s ++ tl t := by simp [jr, tl]
  rw [e]
  obtain ⟨⟨a⟩⟩ := s
  obtain ⟨⟨b⟩⟩ := t
  rw [ByteArray.mk_append_mk]
  simp [tl]

set_option maxHeartbeats 400000 in
theorem replace_none_ok (s t : ByteArray) (w : World) (hs : s.size ≤ 100000) (ht : t.size ≤ 100000) (hl : s.size + t.size ≤ 65536) :
    Calls Tryd.prog 21 #[.string s, .string ⟨#[]⟩, .string t] w fun e w' => e = .returned (.tuple #[.string (s ++ t), .int .i64 0]) ∧ Below w.heap.size w w' := by
  have kg : ∀ w, Calls Tryd.prog 37 #[.string ⟨#[]⟩, .slice (some ⟨w.heap.size, 0, none⟩) 2 2] (w.alloc (.cells #[.string s, .string t] 9)) fun e w' => e = .returned (.string (s ++ t)) ∧ Below w.heap.size w w' := fun w => by
    have hlen : (jr (tl ⟨#[]⟩) true [s, t]).length ≤ 140737488355328 := by
      have e : jr (tl ⟨#[]⟩) true [s, t] = tl s ++ tl t := by simp [jr, tl]
      rw [e, List.length_append, show (tl s).length = s.size from (Lib.size_eq s).symm, show (tl t).length = t.size from (Lib.size_eq t).symm]
      omega
    refine (glue_any ⟨#[]⟩ [s, t] _ _ (two_strs w s t) hlen).mono fun e w' ⟨he, hb⟩ => ⟨?_, ((Below.refl _ w).alloc (Nat.le_refl _) _).trans (hb.mono (by simp))⟩
    rw [he, jr_two]
  generalize s ++ t = x at kg ⊢
  go_enter Tryd.func21, Tryd.ntmps21
  go_wp2_with (first | (go_at_call 38; refine (places_none _ _).mono ?_; rintro e w' ⟨rfl, rfl⟩) | (go_at_call 37; refine (kg _).mono ?_; rintro e w1 ⟨rfl, hb1⟩))
  go_ret2
  exact ⟨rfl, hb1⟩

theorem rreplace_none_long (s t : ByteArray) (w : World) (hs : s.size ≤ 100000) (ht : t.size ≤ 100000) (hl : 65536 < s.size + t.size) :
    Calls Tryd.prog 22 #[.string s, .string ⟨#[]⟩, .string t] w fun e w' => e = .returned (.tuple #[.string ⟨#[]⟩, .bool false]) ∧ Below w.heap.size w w' := by
  go_enter Tryd.func22, Tryd.ntmps22
  go_wp2
  go_ret2
  exact ⟨rfl, Below.refl _ _⟩
theorem rreplace_none_ok (s t : ByteArray) (w : World) (hs : s.size ≤ 100000) (ht : t.size ≤ 100000) (hl : s.size + t.size ≤ 65536) :
    Calls Tryd.prog 22 #[.string s, .string ⟨#[]⟩, .string t] w fun e w' => e = .returned (.tuple #[.string (s ++ t), .bool true]) ∧ Below w.heap.size w w' := by
  go_enter Tryd.func22, Tryd.ntmps22
  go_wp2
  go_ret2
  exact ⟨rfl, Below.refl _ _⟩

set_option maxHeartbeats 400000 in
theorem repl_ok (s f t x : ByteArray) (w : World) (h : Env w) (hs : s.size ≤ 70000) (hf : f.size ≤ 70000) (ht : t.size ≤ 70000) (hc : s.size ≤ 300 ∨ t.size ≤ 300)
    (kA : ∀ w, Mx w → Calls Tryd.prog 21 #[.string s, .string f, .string t] w fun e w' => e = .returned (.tuple #[.string x, .int .i64 0]) ∧ Below w.heap.size w w')
    (kB : ∀ w, Calls Tryd.prog 22 #[.string s, .string f, .string t] w fun e w' => e = .returned (.tuple #[.string x, .bool true]) ∧ Below w.heap.size w w') :
    Calls Tryd.prog 5 #[.string s, .string f, .string t] w fun e w' => e = .returned (.bool true) ∧ Below w.heap.size w w' := by
  have kF : ∀ w, Mx w → Calls Tryd.prog 24 #[.string s, .string f] w fun e w' => e = .returned (.int .i64 (Lib.index s.data.toList f.data.toList)) ∧ w' = w := fun w hm => find_any s f w (by omega) hm
  have kG : ∀ w, Calls Tryd.prog 25 #[.string s, .string f] w fun e w' => e = .returned (.int .i64 (Lib.index s.data.toList f.data.toList)) ∧ w' = w := fun w => rfind_any s f w (by omega) (by omega)
  generalize Lib.index s.data.toList f.data.toList = i at kF kG
  by_cases h3 : s.size ≤ 300
  · clear hc
    go_enter Tryd.func5, Tryd.ntmps5
    go_wp2_with fail
    refine (alive_any _ h).mono ?_
    rintro e w1 ⟨rfl, hb1⟩
    have e1 := h.below hb1
    go_wp2_with fail
    refine (kA _ e1.mx).mono ?_
    rintro e w2 ⟨rfl, hb2⟩
    have e2 := e1.below hb2
    go_wp2_with fail
    refine (kB _).mono ?_
    rintro e w3 ⟨rfl, hb3⟩
    have e3 := e2.below hb3
    have hb : Below w.heap.size w w3 := (hb1.trans (hb2.mono hb1.size)).trans (hb3.mono (Nat.le_trans hb1.size hb2.size))
    clear hb1 hb2 hb3 e1 e2
    go_wp2_with (first | (go_at_call 23; refine (num_any _ _).mono ?_; rintro e w' ⟨rfl, rfl⟩) | (go_at_call 24; refine (kF _ e3.mx).mono ?_; rintro e w' ⟨rfl, rfl⟩) | (go_at_call 25; refine (kG _).mono ?_; rintro e w' ⟨rfl, rfl⟩))
    go_ret
    exact ⟨rfl, hb⟩
  · have h4 : t.size ≤ 300 := by omega
    clear hc
    go_enter Tryd.func5, Tryd.ntmps5
    go_wp2_with fail
    refine (alive_any _ h).mono ?_
    rintro e w1 ⟨rfl, hb1⟩
    have e1 := h.below hb1
    go_wp2_with fail
    refine (kA _ e1.mx).mono ?_
    rintro e w2 ⟨rfl, hb2⟩
    have e2 := e1.below hb2
    go_wp2_with fail
    refine (kB _).mono ?_
    rintro e w3 ⟨rfl, hb3⟩
    have e3 := e2.below hb3
    have hb : Below w.heap.size w w3 := (hb1.trans (hb2.mono hb1.size)).trans (hb3.mono (Nat.le_trans hb1.size hb2.size))
    clear hb1 hb2 hb3 e1 e2
    go_wp2_with (first | (go_at_call 23; refine (num_any _ _).mono ?_; rintro e w' ⟨rfl, rfl⟩) | (go_at_call 24; refine (kF _ e3.mx).mono ?_; rintro e w' ⟨rfl, rfl⟩) | (go_at_call 25; refine (kG _).mono ?_; rintro e w' ⟨rfl, rfl⟩))
    go_ret
    exact ⟨rfl, hb⟩

set_option maxHeartbeats 400000 in
theorem repl_long (s f t x : ByteArray) (w : World) (h : Env w) (hs : s.size ≤ 70000) (hf : f.size ≤ 70000) (ht : t.size ≤ 70000) (hc : s.size ≤ 300 ∨ t.size ≤ 300)
    (kA : ∀ w, Mx w → Calls Tryd.prog 21 #[.string s, .string f, .string t] w fun e w' => e = .returned (.tuple #[.string x, .int .i64 2]) ∧ Below w.heap.size w w')
    (kB : ∀ w, Calls Tryd.prog 22 #[.string s, .string f, .string t] w fun e w' => e = .returned (.tuple #[.string x, .bool false]) ∧ Below w.heap.size w w') :
    Calls Tryd.prog 5 #[.string s, .string f, .string t] w fun e w' => e = .returned (.bool true) ∧ Below w.heap.size w w' := by
  have kF : ∀ w, Mx w → Calls Tryd.prog 24 #[.string s, .string f] w fun e w' => e = .returned (.int .i64 (Lib.index s.data.toList f.data.toList)) ∧ w' = w := fun w hm => find_any s f w (by omega) hm
  have kG : ∀ w, Calls Tryd.prog 25 #[.string s, .string f] w fun e w' => e = .returned (.int .i64 (Lib.index s.data.toList f.data.toList)) ∧ w' = w := fun w => rfind_any s f w (by omega) (by omega)
  generalize Lib.index s.data.toList f.data.toList = i at kF kG
  by_cases h3 : s.size ≤ 300
  · clear hc
    go_enter Tryd.func5, Tryd.ntmps5
    go_wp2_with fail
    refine (alive_any _ h).mono ?_
    rintro e w1 ⟨rfl, hb1⟩
    have e1 := h.below hb1
    go_wp2_with fail
    refine (kA _ e1.mx).mono ?_
    rintro e w2 ⟨rfl, hb2⟩
    have e2 := e1.below hb2
    go_wp2_with fail
    refine (kB _).mono ?_
    rintro e w3 ⟨rfl, hb3⟩
    have e3 := e2.below hb3
    have hb : Below w.heap.size w w3 := (hb1.trans (hb2.mono hb1.size)).trans (hb3.mono (Nat.le_trans hb1.size hb2.size))
    clear hb1 hb2 hb3 e1 e2
    go_wp2_with (first | (go_at_call 23; refine (num_any _ _).mono ?_; rintro e w' ⟨rfl, rfl⟩) | (go_at_call 24; refine (kF _ e3.mx).mono ?_; rintro e w' ⟨rfl, rfl⟩) | (go_at_call 25; refine (kG _).mono ?_; rintro e w' ⟨rfl, rfl⟩))
    go_ret
    exact ⟨rfl, hb⟩
  · have h4 : t.size ≤ 300 := by omega
    clear hc
    go_enter Tryd.func5, Tryd.ntmps5
    go_wp2_with fail
    refine (alive_any _ h).mono ?_
    rintro e w1 ⟨rfl, hb1⟩
    have e1 := h.below hb1
    go_wp2_with fail
    refine (kA _ e1.mx).mono ?_
    rintro e w2 ⟨rfl, hb2⟩
    have e2 := e1.below hb2
    go_wp2_with fail
    refine (kB _).mono ?_
    rintro e w3 ⟨rfl, hb3⟩
    have e3 := e2.below hb3
    have hb : Below w.heap.size w w3 := (hb1.trans (hb2.mono hb1.size)).trans (hb3.mono (Nat.le_trans hb1.size hb2.size))
    clear hb1 hb2 hb3 e1 e2
    go_wp2_with (first | (go_at_call 23; refine (num_any _ _).mono ?_; rintro e w' ⟨rfl, rfl⟩) | (go_at_call 24; refine (kF _ e3.mx).mono ?_; rintro e w' ⟨rfl, rfl⟩) | (go_at_call 25; refine (kG _).mono ?_; rintro e w' ⟨rfl, rfl⟩))
    go_ret
    exact ⟨rfl, hb⟩

set_option maxHeartbeats 400000 in
theorem repl_s (s f t : ByteArray) (w : World) (h : Env w) (hsm : s.size ≤ maxLen) (hs : 70000 < s.size) :
    Calls Tryd.prog 5 #[.string s, .string f, .string t] w fun e w' => e = .returned (.bool true) ∧ Below w.heap.size w w' := by
  unfold maxLen at hsm
  go_enter Tryd.func5, Tryd.ntmps5
  go_wp2_with (go_at_call 9; refine (alive_any _ h).mono ?_; rintro e w1 ⟨rfl, hb1⟩)
  go_ret
  exact ⟨rfl, hb1⟩

set_option maxHeartbeats 400000 in
theorem repl_f (s f t : ByteArray) (w : World) (h : Env w) (hsm : s.size ≤ maxLen) (hfm : f.size ≤ maxLen) (hs : s.size ≤ 70000) (hf : 70000 < f.size) :
    Calls Tryd.prog 5 #[.string s, .string f, .string t] w fun e w' => e = .returned (.bool true) ∧ Below w.heap.size w w' := by
  unfold maxLen at hsm hfm
  go_enter Tryd.func5, Tryd.ntmps5
  go_wp2_with (go_at_call 9; refine (alive_any _ h).mono ?_; rintro e w1 ⟨rfl, hb1⟩)
  go_ret
  exact ⟨rfl, hb1⟩

set_option maxHeartbeats 400000 in
theorem repl_t (s f t : ByteArray) (w : World) (h : Env w) (hsm : s.size ≤ maxLen) (hfm : f.size ≤ maxLen) (htm : t.size ≤ maxLen) (hs : s.size ≤ 70000) (hf : f.size ≤ 70000) (ht : 70000 < t.size) :
    Calls Tryd.prog 5 #[.string s, .string f, .string t] w fun e w' => e = .returned (.bool true) ∧ Below w.heap.size w w' := by
  unfold maxLen at hsm hfm htm
  go_enter Tryd.func5, Tryd.ntmps5
  go_wp2_with (go_at_call 9; refine (alive_any _ h).mono ?_; rintro e w1 ⟨rfl, hb1⟩)
  go_ret
  exact ⟨rfl, hb1⟩

set_option maxHeartbeats 400000 in
theorem repl_b (s f t : ByteArray) (w : World) (h : Env w) (hsm : s.size ≤ maxLen) (hfm : f.size ≤ maxLen) (htm : t.size ≤ maxLen) (hs : s.size ≤ 70000) (hf : f.size ≤ 70000) (ht : t.size ≤ 70000) (h3 : 300 < s.size) (h4 : 300 < t.size) :
    Calls Tryd.prog 5 #[.string s, .string f, .string t] w fun e w' => e = .returned (.bool true) ∧ Below w.heap.size w w' := by
  unfold maxLen at hsm hfm htm
  go_enter Tryd.func5, Tryd.ntmps5
  go_wp2_with (go_at_call 9; refine (alive_any _ h).mono ?_; rintro e w1 ⟨rfl, hb1⟩)
  go_ret
  exact ⟨rfl, hb1⟩

theorem rlen_rR (s f t : ByteArray) (h1 : 1 ≤ f.size) : rlen s f t = ((rR s f t).length : Int) := by
  have := ra_length (tl f) (tl t) (ne_of_size f h1) _ (tl s) (Nat.le_refl _)
  unfold rlen rR
  rw [this, show (tl s).length = s.size from (Lib.size_eq s).symm, show (tl t).length = t.size from (Lib.size_eq t).symm, show (tl f).length = f.size from (Lib.size_eq f).symm]
  rfl
theorem rtxt_rR (s f t : ByteArray) (h1 : 1 ≤ f.size) : rtxt s f t = ⟨(rR s f t).toArray⟩ := by
  unfold rtxt rR
  exact congrArg (fun l : List UInt8 => ByteArray.mk l.toArray) (replaceAll_ra (tl f) (tl t) (ne_of_size f h1) (tl s))

theorem repl_any (s f t : ByteArray) (w : World) (h : Env w) (hsm : s.size ≤ maxLen) (hfm : f.size ≤ maxLen) (htm : t.size ≤ maxLen) :
    Calls Tryd.prog 5 #[.string s, .string f, .string t] w fun e w' => e = .returned (.bool true) ∧ Below w.heap.size w w' := by
  by_cases hs : s.size ≤ 70000
  · by_cases hf : f.size ≤ 70000
    · by_cases ht : t.size ≤ 70000
      · by_cases hc : s.size ≤ 300 ∨ t.size ≤ 300
        · by_cases h1 : 1 ≤ f.size
          · have e1 := rlen_rR s f t h1
            have e2 := rtxt_rR s f t h1
            by_cases hR : (rR s f t).length ≤ 65536
            · refine repl_ok s f t ⟨(rR s f t).toArray⟩ w h hs hf ht hc (fun w hm => ?_) (fun w => rreplace_ok s f t w (by omega) (by omega) (by omega) h1 hR)
              have hz : (rtxt s f t).size ≤ 281474976710656 := by
                rw [e2]
                show (rR s f t).toArray.size ≤ _
                rw [List.size_toArray]
                omega
              have := replace_some s f t w (by omega) (by omega) (by omega) h1 hm (by omega) hz
              rwa [e2] at this
            · refine repl_long s f t ⟨#[]⟩ w h hs hf ht hc (fun w hm => ?_) (fun w => rreplace_long s f t w (by omega) (by omega) (by omega) h1 (by omega))
              exact (replace_long s f t w (by omega) (by omega) (by omega) h1 hm (by omega)).mono fun e w' ⟨he, hw⟩ => ⟨he, hw ▸ Below.refl _ _⟩
          · have e : f = ⟨#[]⟩ := by
              have hz : f.data.size = 0 := by have : f.data.size = f.size := rfl; omega
              obtain ⟨d⟩ := f
              exact congrArg ByteArray.mk (Array.eq_empty_of_size_eq_zero hz)
            subst e
            by_cases hR : s.size + t.size ≤ 65536
            · exact repl_ok s ⟨#[]⟩ t (s ++ t) w h hs hf ht hc (fun w _ => replace_none_ok s t w (by omega) (by omega) hR) (fun w => rreplace_none_ok s t w (by omega) (by omega) hR)
            · exact repl_long s ⟨#[]⟩ t ⟨#[]⟩ w h hs hf ht hc (fun w _ => replace_none_long s t w (by omega) (by omega) (by omega)) (fun w => rreplace_none_long s t w (by omega) (by omega) (by omega))
        · exact repl_b s f t w h hsm hfm htm hs hf ht (by omega) (by omega)
      · exact repl_t s f t w h hsm hfm htm hs hf (by omega)
    · exact repl_f s f t w h hsm hfm hs (by omega)
  · exact repl_s s f t w h hsm (by omega)
end Go.Proofs.YtjfbnjajekedlaaDoor
