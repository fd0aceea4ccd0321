/- The contract of the law PatBack: it answers true whatever the texts are. -/
import Derived.Test.YtbegdhbpcgflkaaLaws
namespace Go.Proofs.Ytbegdhbpcgflkaa
open Go.RowKit Go.Shelf

theorem back_long (a b s : ByteArray) (w : World) (ha : a.size ≤ 140737488355328) (hb : b.size ≤ 140737488355328) (hs : s.size ≤ 140737488355328) (h : 5000 < a.size + b.size + s.size) :
    Calls Try.prog 5 #[.string a, .string b, .string s] w fun e w' => e = .returned (.bool true) ∧ Below w.heap.size w w' := by
  go_enter Try.func5, Try.ntmps5
  go_wp2_with fail
  refine (alive_any _).mono ?_
  rintro e w1 ⟨rfl, hb1⟩
  go_wp2
  go_ret
  exact ⟨rfl, hb1⟩

theorem back_open (a b s : ByteArray) (w : World) (h : a.size + b.size + s.size ≤ 5000) (ho : opn (tl a) = true) :
    Calls Try.prog 5 #[.string a, .string b, .string s] w fun e w' => e = .returned (.bool true) ∧ Below w.heap.size w w' := by
  have q := fun w => rindex_any a w (by omega)
  rw [ip_yes _ ho] at q
  generalize fp (tl a) = m at q
  go_enter Try.func5, Try.ntmps5
  go_wp2_with fail
  refine (alive_any _).mono ?_
  rintro e w1 ⟨rfl, hb1⟩
  go_wp2_with fail
  refine (q _).mono ?_
  rintro e w1' ⟨rfl, rfl⟩
  go_wp2
  go_ret
  exact ⟨rfl, hb1⟩

theorem tl_P (a b : ByteArray) : tl (a ++ ⟨#[37]⟩ ++ b) = tl a ++ 37 :: tl b := by rw [tl_app, tl_app, List.append_assoc]; rfl
theorem tl_Y (a b s : ByteArray) : tl (a ++ s ++ b) = tl a ++ (tl s ++ tl b) := by rw [tl_app, tl_app, List.append_assoc]
theorem mk_of (s : ByteArray) (l : List UInt8) (h : l = tl s) : mk l = s := by rw [h]; exact mk_tl s

set_option maxHeartbeats 1000000 in
theorem back_main (a b s : ByteArray) (w : World) (h : a.size + b.size + s.size ≤ 5000) (ho : opn (tl a) = false) :
    Calls Try.prog 5 #[.string a, .string b, .string s] w fun e w' => e = .returned (.bool true) ∧ Below w.heap.size w w' := by
  have q := fun w => rindex_any a w (by omega)
  rw [ip_no _ ho] at q
  have zP : (a ++ ⟨#[37]⟩ ++ b).size ≤ 5001 := by rw [ByteArray.size_append, ByteArray.size_append, show (⟨#[37]⟩ : ByteArray).size = 1 from rfl]; omega
  have zY : (a ++ s ++ b).size ≤ 5000 := by rw [ByteArray.size_append, ByteArray.size_append]; omega
  have q1 := fun w => put_any (a ++ ⟨#[37]⟩ ++ b) s w (by omega) (by omega)
  have q2 := fun w => pmatch_any (a ++ ⟨#[37]⟩ ++ b) (a ++ s ++ b) w (by omega) (by omega)
  have q3 := fun w => subst_any (a ++ ⟨#[37]⟩ ++ b) ⟨#[120, 37]⟩ (a ++ s ++ b) w (by omega) (by decide) (by omega)
  have zZ : (mk (120 :: tl s)).size ≤ 5001 := by rw [mk_size, List.length_cons, tl_len]; omega
  have q4 := fun w => subst_any ⟨#[120, 37]⟩ (a ++ ⟨#[37]⟩ ++ b) (mk (120 :: tl s)) w (by decide) (by omega) (by omega)
  have e1 : mk (put (tl (a ++ ⟨#[37]⟩ ++ b)) (tl s)) = a ++ s ++ b := mk_of _ _ (by rw [tl_P, put_app _ _ _ ho, tl_Y])
  have e2 : mt (tl (a ++ ⟨#[37]⟩ ++ b)) (tl (a ++ s ++ b)) = (tl s, true) := by rw [tl_P, tl_Y, mt_app _ _ _ ho]
  have e3 : sub (tl (a ++ ⟨#[37]⟩ ++ b)) (tl ⟨#[120, 37]⟩) (tl (a ++ s ++ b)) = 120 :: tl s := by
    rw [tl_P, tl_Y, sub_app _ _ _ _ ho]
    have := put_app [120] [] (tl s) (by decide)
    rw [List.append_nil] at this
    exact this
  have e4 : mk (sub (tl ⟨#[120, 37]⟩) (tl (a ++ ⟨#[37]⟩ ++ b)) (tl (mk (120 :: tl s)))) = a ++ s ++ b := mk_of _ _ (by
    rw [tl_mk (120 :: tl s), tl_P, tl_Y]
    have := sub_app [120] [] (tl a ++ 37 :: tl b) (tl s) (by decide)
    rw [List.append_nil] at this
    rw [show tl ⟨#[120, 37]⟩ = [120] ++ 37 :: [] from rfl]
    exact this.trans (put_app _ _ _ ho))
  rw [e1] at q1
  rw [e2] at q2
  rw [e3] at q3
  rw [e4] at q4
  dsimp only at q2
  simp only [mk_tl] at q2
  generalize mk (120 :: tl s) = Z at q3 q4
  clear e1 e2 e3 e4 zZ ho
  go_enter Try.func5, Try.ntmps5
  go_wp2_with fail
  refine (alive_any _).mono ?_
  rintro e w0 ⟨rfl, hb0⟩
  go_wp2_with fail
  refine (q _).mono ?_
  rintro e w0' ⟨rfl, rfl⟩
  go_wp2_with fail
  refine (q1 _).mono ?_
  rintro e w1 ⟨rfl, hb1⟩
  have B1 := hb0.trans (hb1.mono hb0.size)
  clear hb0 hb1
  go_wp2_with fail
  refine (q2 _).mono ?_
  rintro e w2 ⟨rfl, hb2⟩
  have B2 := B1.trans (hb2.mono B1.size)
  clear hb2 B1
  go_wp2_with fail
  refine (q3 _).mono ?_
  rintro e w3 ⟨rfl, hb3⟩
  have B3 := B2.trans (hb3.mono B2.size)
  clear hb3 B2
  go_wp2_with fail
  refine (q4 _).mono ?_
  rintro e w4 ⟨rfl, hb4⟩
  have B4 := B3.trans (hb4.mono B3.size)
  clear hb4 B3
  go_wp2
  go_ret
  exact ⟨rfl, B4⟩

theorem back_any (a b s : ByteArray) (w : World) (ha : a.size ≤ 140737488355328) (hb : b.size ≤ 140737488355328) (hs : s.size ≤ 140737488355328) :
    Calls Try.prog 5 #[.string a, .string b, .string s] w fun e w' => e = .returned (.bool true) ∧ Below w.heap.size w w' := by
  by_cases h : a.size + b.size + s.size ≤ 5000
  · cases ho : opn (tl a) with
    | false => exact back_main a b s w h ho
    | true => exact back_open a b s w h ho
  · exact back_long a b s w ha hb hs (by omega)
end Go.Proofs.Ytbegdhbpcgflkaa
