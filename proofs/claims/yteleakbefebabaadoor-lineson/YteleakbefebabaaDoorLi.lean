/- The contracts of strings.Cut at a line end, of lines.linesOf, and of the iterator that it hands back: it yields the lines of a text, one by one. -/
import Derived.Test.YteleakbefebabaaDoorJn
import Derived.Test.YteleakbefebabaaDoorShelf
namespace Go.Proofs.YteleakbefebabaaDoor
open Go.RowKit Go.Shelf
attribute [local go_sem] Oper.semAt_some

theorem index_fp (l : List UInt8) : Lib.indexByte l 10 = if fp l < l.length then (fp l : Int) else -1 := by
  induction l with
  | nil => rfl
  | cons c r ih =>
    unfold Lib.indexByte
    by_cases hc : c = 10
    · subst hc; simp [fp]
    · have hb : (c == 10) = false := by simpa using hc
      rw [if_neg (by simp [hb]), ih]
      simp only [fp, if_neg hc, List.length_cons]
      by_cases h : fp r < r.length
      · have h2 : fp r + 1 < r.length + 1 := by omega
        rw [if_pos h, if_pos h2, if_neg (by simp)]
        omega
      · have h2 : ¬ fp r + 1 < r.length + 1 := by omega
        rw [if_neg h, if_neg h2]; rfl
def ahd (l : List UInt8) : List UInt8 := l.take (fp l)
def bhd (l : List UInt8) : List UInt8 := l.drop (fp l + 1)

theorem cutl_any (s : ByteArray) (w : World) (hs : s.size ≤ 1000000) :
    Calls Tryd.prog 35 #[.string s, .string ⟨#[10]⟩] w fun e w' => e = .returned (.tuple #[.string (mk (ahd (tl s))), .string (mk (bhd (tl s))), .bool (decide (fp (tl s) < (tl s).length))]) ∧ ∃ n, w' = w.drewN n := by
  have q := Tryd.stringslite_Index_one s 10 w
  rw [show s.data.toList = tl s from rfl, index_fp] at q
  by_cases ho : fp (tl s) < (tl s).length
  · have hf := ho
    rw [tl_len] at hf
    rw [if_pos ho] at q
    have e1 : mk (ahd (tl s)) = s.extract 0 (fp (tl s)) := (ext_take _ _).symm
    have e2 : mk (bhd (tl s)) = s.extract (fp (tl s) + 1) s.size := (ext_drop _ _).symm
    rw [decide_eq_true ho, e1, e2]
    generalize fp (tl s) = m at q hf
    clear ho e1 e2
    go_enter Tryd.func35, Tryd.ntmps35
    go_wp2_with fail
    refine q.mono ?_
    rintro e w' ⟨rfl, rfl⟩
    go_wp2
    go_region
    go_wp2
    go_ret3
    exact ⟨rfl, 1, rfl⟩
  · rw [if_neg ho] at q
    have h1 := fp_le (tl s)
    have h2 : fp (tl s) = (tl s).length := by omega
    have e1 : ahd (tl s) = tl s := by unfold ahd; rw [h2, List.take_length]
    have e2 : bhd (tl s) = [] := by unfold bhd; rw [h2]; exact List.drop_eq_nil_of_le (by omega)
    rw [decide_eq_false ho, e1, e2, mk_tl]
    clear ho e1 e2 h1 h2
    go_enter Tryd.func35, Tryd.ntmps35
    go_wp2_with fail
    refine q.mono ?_
    rintro e w' ⟨rfl, rfl⟩
    go_wp2
    go_ret3
    exact ⟨rfl, 0, rfl⟩

theorem cut_any (s : ByteArray) (w : World) (hs : s.size ≤ 1000000) :
    Calls Tryd.prog 25 #[.string s, .string ⟨#[10]⟩] w fun e w' => e = .returned (.tuple #[.string (mk (ahd (tl s))), .string (mk (bhd (tl s))), .bool (decide (fp (tl s) < (tl s).length))]) ∧ ∃ n, w' = w.drewN n := by
  have q := cutl_any s w hs
  generalize mk (ahd (tl s)) = a at q
  generalize mk (bhd (tl s)) = b at q
  generalize decide (fp (tl s) < (tl s).length) = o at q
  go_enter Tryd.func25, Tryd.ntmps25
  go_wp2_with fail
  refine q.mono ?_
  rintro e w' ⟨rfl, n, rfl⟩
  go_wp2
  go_ret3
  exact ⟨rfl, n, rfl⟩

theorem linesOf_any (s : ByteArray) (w : World) :
    Calls Tryd.prog 14 #[.string s] w fun e w' => e = .returned (.func (.func 24) #[] #[.pointer (some ⟨w.heap.size, 0, none⟩)]) ∧ w' = w.alloc (.cells #[.string s] 9) := by
  go_enter Tryd.func14, Tryd.ntmps14
  go_wp2
  go_ret
  exact ⟨rfl, rfl⟩

def strLen : Value → Nat
  | .string r => r.size
  | _ => 0
/-- what comes of a text's lines: each within bounds, and not too many -/
def PfL (pre : List ByteArray) (x : ByteArray) : Prop := x.size ≤ 1000000 ∧ pre.length < 1000000
def Drw (A B : World) : Prop := ∃ n, B = A.drewN n

set_option maxRecDepth 100000 in
set_option maxHeartbeats 1000000 in
theorem lines1_in (n : Nat) (hn : 1 ≤ n) (l Bs : Nat) (s : ByteArray) (hs : s.size ≤ 1000000) (J Jx : List ByteArray → World → Prop) (hJ : ∀ pre A B, J pre A → Drw A B → J pre B)
    (hY : ∀ pre x W, PfL pre x → J pre W → YieldAt Fence.wide (n - 1) Tryd.prog l #[.string x] W fun e W' =>
      (e = .returned (.bool true) ∧ J (pre ++ [x]) W' ∧ True) ∨ (e = .returned (.bool false) ∧ Jx (pre ++ [x]) W'))
    (W : World) (hB : Boxed W Bs 9 (.string s)) (h0 : J [] W) :
    CallsIn Fence.wide n Tryd.prog 24 #[.func (.yield l) #[] #[], .pointer (some ⟨Bs, 0, none⟩)] W fun e W' => (∃ v, e = .returned v) ∧
      ((∃ ys : List ByteArray, ys.map tl = phys (tl s) ∧ J ys W') ∨ (∃ pre, True ∧ Jx pre W')) := by
  have HY := hide' hY
  have HJA := hide' hJ
  have hc0 := hB.cell
  clear hY hJ
  refine callsIn_of_wp Tryd.func24 rfl trivial ?_ rfl
  simp only [Tryd.ntmps24, List.size_toArray, List.length_cons, List.length_nil, Nat.reduceAdd, Nat.reduceSub, Array.replicate_succ, Array.replicate_zero, List.push_toArray, List.append_toArray, List.nil_append, List.cons_append]
  gi_wp2
  gi_loopw [3] (fun p wr => ∃ (r : ByteArray) (pre : List ByteArray), p = .string r ∧ r.size + pre.length ≤ s.size ∧ Hid (pre.map tl ++ phys (tl r) = phys (tl s)) ∧ J pre wr)
    (fun p _ => strLen p)
  case atStart => exact ⟨s, [], rfl, by simp, rfl, h0⟩
  case round =>
    obtain ⟨r, pre, rfl, hrs, HW, hJs⟩ := hrel
    by_cases hr : tl r = []
    · have hrl : r.toList.isEmpty = true := by rw [Lib.toList_data]; show (tl r).isEmpty = true; rw [hr]; rfl
      have hfin : pre.map tl = phys (tl s) := by rw [← HW.out, hr, phys_nil, List.append_nil]
      have HF := hide' hfin
      clear hfin HW hr
      gi_wp2
      go_end0
      exact ⟨⟨_, rfl⟩, .inl ⟨pre, HF.out, hJs⟩⟩
    · have hrl : r.toList.isEmpty = false := by
        rw [Lib.toList_data]; show (tl r).isEmpty = false
        cases h : tl r with
        | nil => exact absurd h hr
        | cons _ _ => rfl
      have hph := phys_at (tl r) hr
      have kc := fun w => cut_any r w (by omega)
      have hl1 : (ahd (tl r)).length ≤ r.size := by unfold ahd; rw [List.length_take, tl_len]; omega
      have hpos : 0 < r.size := by rw [← tl_len]; exact List.length_pos_iff.2 hr
      have hl2 : (bhd (tl r)).length < r.size := by unfold bhd; rw [List.length_drop, tl_len]; omega
      obtain ⟨x, hx⟩ : ∃ x, x = mk (ahd (tl r)) := ⟨_, rfl⟩
      obtain ⟨y, hy⟩ : ∃ y, y = mk (bhd (tl r)) := ⟨_, rfl⟩
      have hxt : tl x = ahd (tl r) := by rw [hx, tl_mk]
      have hyt : tl y = bhd (tl r) := by rw [hy, tl_mk]
      rw [← hx, ← hy] at kc
      have HW' : Hid ((pre ++ [x]).map tl ++ phys (tl y) = phys (tl s)) := by
        show _ = _
        rw [← HW.out, hph, List.map_append, List.map_singleton, hxt, hyt, List.append_assoc]; rfl
      rw [← hxt, tl_len] at hl1
      rw [← hyt, tl_len] at hl2
      have hJ1 : ∀ n, J pre (wr.drewN n) := fun n => HJA.out pre wr _ hJs ⟨n, rfl⟩
      have HJ1 := hide' hJ1
      generalize decide (fp (tl r) < (tl r).length) = o at kc
      clear hph hx hy hxt hyt HW hr hJ1 hJs
      gi_wp2_with (refine ⟨trivial, ?_⟩; gi_at_call 25; refine (callsIn_wide.2 (kc _)).mono ?_)
      rintro e w1 ⟨rfl, q, rfl⟩
      obtain ⟨fn, tmps, assign, body, hyy, hRd⟩ := HY.out pre x (wr.drewN q) ⟨by omega, by omega⟩ (HJ1.out q)
      gi_wp2
      refine hRd.mono ?_
      rintro e W3 (⟨rfl, hJ3, _⟩ | ⟨rfl, hJx3⟩)
      · clear hyy hRd
        gi_wp2
        exact ⟨⟨y, pre ++ [x], rfl, by simp; omega, HW', hJ3⟩, hl2⟩
      · clear hyy hRd
        gi_wp2
        refine bodyPost_ret (results_none rfl _ _ _) rfl ?_
        exact ⟨⟨_, rfl⟩, .inr ⟨_, trivial, hJx3⟩⟩

/-- lines.linesOf HANDS BACK A VALUE that yields the lines of s, in order. -/
theorem lines_seq (n : Nat) (hn : 1 ≤ n) (Bs : Nat) (s : ByteArray) (hs : s.size ≤ 1000000) (w : World) (hB : Boxed w Bs 9 (.string s)) :
    SeqOf Fence.wide n Tryd.prog 24 #[.pointer (some ⟨Bs, 0, none⟩)] (fun x : ByteArray => #[Value.string x]) Drw (fun _ _ => True) PfL (fun ys => ys.map tl = phys (tl s)) (fun _ => True) w := fun l J Jx W hW hJ _ hY h0 =>
  lines1_in n hn l Bs s hs J Jx hJ hY W ((hW.block Bs hB.lt).trans hB) h0
end Go.Proofs.YteleakbefebabaaDoor
