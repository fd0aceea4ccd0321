/- The contract of text.words and of the iterator that it hands back: it yields the words of its text, one by one. -/
import Derived.Test.YtnhheljgjemfoaaDoorWords
namespace Go.Proofs.YtnhheljgjemfoaaDoor
open Go.RowKit Go.Shelf
attribute [local go_sem] Oper.semAt_some

/-- a word as it is handed on: a text that is not too long to be copied -/
abbrev Wd := { x : ByteArray // x.size ≤ 1000000 }
def bytesOf (x : Wd) : List UInt8 := x.1.data.toList
/-- what a round must keep: the box that holds the text -/
def KpB (Bs : Nat) (A B : World) : Prop := ∀ v, Boxed A Bs 9 v → Boxed B Bs 9 v
theorem KpB.t {Bs : Nat} {A B C : World} (h : KpB Bs A B) (k : KpB Bs B C) : KpB Bs A C := fun v hv => k v (h v hv)
theorem KpB.b {Bs : Nat} (W : World) (l : Nat) (o o' : Obj) (h : W.heap[l]? = some o) (ho : o.isCells = false) : KpB Bs W (W.putObj l o') := fun v hv =>
  hv.kept (grownBy_putObj' W l o') (fun e => by
    have e' : Bs = l := by simpa using e
    subst e'
    rw [show W.heap[Bs]? = _ from hv] at h
    cases h; cases ho)

theorem hide' {p : Prop} (h : p) : Hid p := h
theorem words_calls (s : ByteArray) (w : World) :
    Calls Tryd.prog 27 #[.string s] w fun e w' => e = .returned (.func (.func 36) #[] #[.pointer (some ⟨w.heap.size, 0, none⟩)]) ∧ w' = w.alloc (.cells #[.string s] 9) := by
  go_enter Tryd.func27, Tryd.ntmps27
  go_wp2
  go_ret
  exact ⟨rfl, rfl⟩

set_option maxRecDepth 100000 in
set_option maxHeartbeats 1000000 in
theorem words1_in (n : Nat) (hn : 1 ≤ n) (l Bs : Nat) (s : ByteArray) (hs : s.size ≤ 1000000) (J Jx : List Wd → World → Prop)
    (hY : ∀ pre x W, J pre W → pre.length < s.size → YieldAt Fence.wide (n - 1) Tryd.prog l #[.string x.1] W fun e W' =>
      (e = .returned (.bool true) ∧ J (pre ++ [x]) W' ∧ KpB Bs W W') ∨ (e = .returned (.bool false) ∧ Jx (pre ++ [x]) W'))
    (W : World) (hB : Boxed W Bs 9 (.string s)) (h0 : J [] W) :
    CallsIn Fence.wide n Tryd.prog 36 #[.func (.yield l) #[] #[], .pointer (some ⟨Bs, 0, none⟩)] W fun e W' => (∃ v, e = .returned v) ∧
      ((∃ ys, ys.map bytesOf = words s.data.toList ∧ J ys W') ∨ (∃ pre, True ∧ Jx pre W')) := by
  refine callsIn_of_wp Tryd.func36 rfl trivial ?_ rfl
  simp only [Tryd.ntmps36, List.size_toArray, List.length_cons, List.length_nil, Nat.reduceAdd, Nat.reduceSub, Array.replicate_succ, Array.replicate_zero, List.push_toArray, List.append_toArray, List.nil_append, List.cons_append]
  gi_wp2
  gi_loopw [3] (fun p wr => ∃ (k : Nat) (pre : List Wd), k ≤ s.size ∧ pre.length ≤ k ∧ p = .int .i64 k ∧ Boxed wr Bs 9 (.string s) ∧ Hid (pre.map bytesOf ++ words (s.data.toList.drop k) = words s.data.toList) ∧ J pre wr)
    (fun p _ => s.size - (intOf p).toNat)
  case atStart => exact ⟨0, [], Nat.zero_le _, Nat.le_refl _, rfl, hB, rfl, h0⟩
  case round =>
    obtain ⟨k, pre, hk, hpl, rfl, hBx, HW, hJs⟩ := hrel
    have hc := hBx.cell
    by_cases hlt : k < s.size
    · cases hb : bl s[k] with
      | true =>
        have kb : ∀ w, Calls Tryd.prog 37 #[.int .u8 s[k].toNat] w fun e w' => e = .returned (.bool true) ∧ w' = w := fun w => by have := blank_any s[k] w; rwa [hb] at this
        have hw := words_blank s[k] (s.data.toList.drop (k + 1)) hb
        rw [← drop_at s k hlt] at hw
        have HW' : Hid (pre.map bytesOf ++ words (s.data.toList.drop (k + 1)) = words s.data.toList) := by rw [← hw]; exact HW
        clear hw hb HW
        gi_wp2_with (refine ⟨trivial, ?_⟩; gi_at_call 37; refine (callsIn_wide.2 (kb _)).mono ?_; rintro e w' ⟨rfl, rfl⟩)
        exact ⟨⟨k + 1, pre, by omega, by omega, by go_num, hBx, HW', hJs⟩, by simp [intOf]; omega⟩
      | false =>
        have kb : ∀ w, Calls Tryd.prog 37 #[.int .u8 s[k].toNat] w fun e w' => e = .returned (.bool false) ∧ w' = w := fun w => by have := blank_any s[k] w; rwa [hb] at this
        have hw1 : 0 < wl (s.data.toList.drop k) := by rw [drop_at s k hlt, wl_cons _ _ hb]; omega
        have hw2 := wl_le (s.data.toList.drop k)
        have hw3 : wend s.data.toList k ≤ s.size := by unfold wend; simp at hw2; omega
        have hw4 : k < wend s.data.toList k := by unfold wend; omega
        have ke := wordEnd_any s k
        have hx : ∀ e, e = wend s.data.toList k → (s.extract k e).data.toList = (s.data.toList.drop k).take (wl (s.data.toList.drop k)) := by
          rintro e rfl
          rw [Lib.extract_data]
          congr 1
          unfold wend
          omega
        have hw := words_at _ hw1
        rw [List.drop_drop, show k + wl (s.data.toList.drop k) = wend s.data.toList k from rfl] at hw
        obtain ⟨e, he⟩ : ∃ e, e = wend s.data.toList k := ⟨_, rfl⟩
        rw [← he] at hw hw3 hw4 ke
        have hx' := hx e he
        have hsz : (s.extract k e).size ≤ 1000000 := by rw [ByteArray.size_extract]; omega
        have HW' : Hid ((pre ++ [(⟨s.extract k e, hsz⟩ : Wd)]).map bytesOf ++ words (s.data.toList.drop e) = words s.data.toList) := by
          show _ = _
          rw [← HW.out, hw]
          rw [List.map_append, List.map_singleton, show bytesOf ⟨s.extract k e, hsz⟩ = _ from hx', List.append_assoc, List.singleton_append]
        clear hw hb HW hx hx' hw1 hw2 he
        obtain ⟨fn, tmps, assign, body, hy, hR⟩ := hY pre ⟨s.extract k e, hsz⟩ wr hJs (by omega)
        dsimp only at hy
        gi_wp2_with (first | (refine ⟨trivial, ?_⟩; gi_at_call 37; refine (callsIn_wide.2 (kb _)).mono ?_; rintro e w' ⟨rfl, rfl⟩) | (refine ⟨trivial, ?_⟩; gi_at_call 38; refine (callsIn_wide.2 (ke _ (by unfold maxLen; omega) (by omega))).mono ?_; rintro e w' ⟨rfl, rfl⟩))
        refine hR.mono ?_
        rintro e' W3 (⟨rfl, hJ3, hk3⟩ | ⟨rfl, hJx3⟩)
        · have hB3 := hk3 _ hBx
          gi_wp2
          exact ⟨⟨e, _, by omega, by simp; omega, rfl, hB3, HW', hJ3⟩, by simp [intOf]; omega⟩
        · gi_wp2
          refine bodyPost_ret (results_none rfl _ _ _) rfl ?_
          exact ⟨⟨_, rfl⟩, .inr ⟨_, trivial, hJx3⟩⟩
    · have hfin : pre.map bytesOf = words s.data.toList := by rw [← HW.out, drop_end s k hlt, words_nil, List.append_nil]
      have HF := hide' hfin
      clear hfin HW
      gi_wp2
      go_end0
      exact ⟨⟨_, rfl⟩, .inl ⟨pre, HF.out, hJs⟩⟩

/-- text.words HANDS BACK A VALUE that yields the words of s, in order, while its box is kept. -/
theorem words_stops (n : Nat) (hn : 1 ≤ n) (Bs : Nat) (s : ByteArray) (hs : s.size ≤ 1000000) (w : World) (hB : Boxed w Bs 9 (.string s)) :
    SeqStopsK Fence.wide n Tryd.prog 36 #[.pointer (some ⟨Bs, 0, none⟩)] (fun x : Wd => #[Value.string x.1]) (KpB Bs) (fun ys => ys.map bytesOf = words s.data.toList) (fun _ => True) s.size w := fun l J Jx W hW _ _ hY h0 =>
  words1_in n hn l Bs s hs J Jx hY W ((hW.block Bs hB.lt).trans hB) h0
end Go.Proofs.YtnhheljgjemfoaaDoor
