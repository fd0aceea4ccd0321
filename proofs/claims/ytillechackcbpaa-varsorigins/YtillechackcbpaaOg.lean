/- The law VarsOrigins: it answers true at all inputs. -/
import Derived.Test.YtillechackcbpaaAl
namespace Go.Proofs.Ytillechackcbpaa
open Go.RowKit Go.Maps

def og (v : Bs) (f o : Int) : Vs := [([118], ⟨[118], v, f, o, 0⟩)]
theorem og_set1 (a : Int) : setL [] [118] [111, 108, 100] 1 a = og [111, 108, 100] 1 a ∧ setOk [] [118] a = true := ⟨rfl, rfl⟩
theorem og_held (v : Bs) (f a b : Int) : held (og v f a) [118] b = decide (b < a) := rfl
theorem og_set2 (v u : Bs) (f g a b : Int) (h : ¬ b < a) : setL (og v f a) [118] u g b = og u g b ∧ setOk (og v f a) [118] b = true := by
  unfold setL setOk
  rw [og_held, decide_eq_false h]
  exact ⟨rfl, rfl⟩
theorem og_set3 (v u : Bs) (f g a b : Int) (h : b < a) : setL (og v f a) [118] u g b = og v f a ∧ setOk (og v f a) [118] b = false := by
  unfold setL setOk
  rw [og_held, decide_eq_true h]
  exact ⟨rfl, rfl⟩
theorem og_und (v : Bs) (f a b : Int) (h : b < a) : undL (og v f a) [118] b = og v f a := by
  unfold undL
  rw [og_held, decide_eq_true h]
  rfl
theorem og_und2 (v : Bs) (f a b : Int) (h : ¬ b < a) : undL (og v f a) [118] b = [] := by
  unfold undL
  rw [og_held, decide_eq_false h]
  rfl
set_option maxHeartbeats 1000000 in
theorem og_main (a b : Int) (v : Bs) (w : World) (ha : 1 ≤ a) (ha' : a ≤ 7) (hb : 1 ≤ b) (hb' : b ≤ 7) (hv : v.length ≤ 1000) :
    Calls Try.prog 5 #[.int .i64 a, .int .i64 b, .string (mk v)] w fun r w' => r = .returned (.bool true) ∧ Below w.heap.size w w' := by
  obtain ⟨u, f, o, yb, hyb, hs, ho, ho'⟩ : ∃ u f o yb, yb = decide (a ≤ b) ∧ (∀ (w0 W : World) (B A : Nat), B ≤ w0.heap.size → Sw B w0 W A (og [111, 108, 100] 1 a) → Calls Try.prog 16 #[.pointer (some ⟨A, 0, none⟩), .string ⟨#[118]⟩, .string (mk v), .int .i64 2, .int .i64 b] W fun r w' => r = .returned (.bool yb) ∧ Sw B w0 w' A (og u f o) ∧ Kb W w') ∧ a ≤ o ∧ o ≤ 7 ∧ u.length ≤ 1000 ∧
      ((a ≤ b ∧ u = v ∧ f = 2 ∧ o = b) ∨ (b < a ∧ u = [111, 108, 100] ∧ f = 1 ∧ o = a)) := by
    by_cases hab : b < a
    · refine ⟨[111, 108, 100], 1, a, false, by simp; omega, fun w0 W B A hB h => ?_, Int.le_refl _, ha', by simp, .inr ⟨hab, rfl, rfl, rfl⟩⟩
      have := sw_set h hB [118] v 2 b (by simp) (by omega)
      rw [(og_set3 _ _ _ _ _ _ hab).1, (og_set3 [111, 108, 100] v 1 2 _ _ hab).2] at this
      exact this
    · refine ⟨v, 2, b, true, by simp; omega, fun w0 W B A hB h => ?_, by omega, hb', hv, .inl ⟨by omega, rfl, rfl, rfl⟩⟩
      have := sw_set h hB [118] v 2 b (by simp) (by omega)
      rw [(og_set2 _ _ _ _ _ _ hab).1, (og_set2 [111, 108, 100] v 1 2 _ _ hab).2] at this
      exact this
  obtain ⟨hol, hul, hcase⟩ := ho'
  have Q1 : Hid (∀ (w0 W : World) (B A : Nat), B ≤ w0.heap.size → Sw B w0 W A [] → Calls Try.prog 16 #[.pointer (some ⟨A, 0, none⟩), .string ⟨#[118]⟩, .string ⟨#[111, 108, 100]⟩, .int .i64 1, .int .i64 a] W fun r w' => r = .returned (.bool true) ∧ Sw B w0 w' A (og [111, 108, 100] 1 a) ∧ Kb W w') := fun w0 W B A hB h => sw_set h hB [118] [111, 108, 100] 1 a (by simp) (by simp)
  have Q2 := hide' hs
  have Q3 : Hid (∀ (w0 W : World) (B A : Nat), B ≤ w0.heap.size → Sw B w0 W A (og u f o) → Calls Try.prog 13 #[.pointer (some ⟨A, 0, none⟩), .string ⟨#[118]⟩] W fun r w' => r = .returned (.tuple #[.agg #[.string ⟨#[118]⟩, .string (mk u), .int .i64 f, .int .i64 o, .int .i64 0], .bool true]) ∧ Sw B w0 w' A (og u f o)) := fun w0 W B A hB h => by
    refine (sw_get h hB [118] (by simp)).mono ?_
    rintro r w' ⟨rfl, h1, _⟩
    exact ⟨rfl, h1⟩
  have Q4 : Hid (∀ (w0 W : World) (B A : Nat), B ≤ w0.heap.size → Sw B w0 W A (og u f o) → Calls Try.prog 20 #[.pointer (some ⟨A, 0, none⟩), .string ⟨#[118]⟩, .int .i64 (a - 1)] W fun r w' => r = .returned (.bool false) ∧ Sw B w0 w' A (og u f o) ∧ Kb W w') := fun w0 W B A hB h => by
    have := sw_und h hB [118] (a - 1) (by simp)
    rw [og_und _ _ _ _ (by omega), og_held, decide_eq_true (by omega : a - 1 < o)] at this
    exact this
  have Q5 : Hid (∀ (w0 W : World) (B A : Nat), B ≤ w0.heap.size → Sw B w0 W A (og u f o) → Calls Try.prog 20 #[.pointer (some ⟨A, 0, none⟩), .string ⟨#[118]⟩, .int .i64 7] W fun r w' => r = .returned (.bool true) ∧ Sw B w0 w' A [] ∧ Kb W w') := fun w0 W B A hB h => by
    have := sw_und h hB [118] 7 (by simp)
    rw [og_und2 _ _ _ _ (by omega), og_held, decide_eq_false (by omega : ¬ 7 < o)] at this
    exact this
  have Q6 : Hid (∀ (w0 W : World) (B A : Nat), B ≤ w0.heap.size → Sw B w0 W A [] → Calls Try.prog 13 #[.pointer (some ⟨A, 0, none⟩), .string ⟨#[118]⟩] W fun r w' => r = .returned (.tuple #[.agg #[.string ⟨#[]⟩, .string ⟨#[]⟩, .int .i64 0, .int .i64 0, .int .i64 0], .bool false]) ∧ Sw B w0 w' A [] ∧ Below W.heap.size W w') := fun w0 W B A hB h => sw_get h hB [118] (by simp)
  have ve := fun W => var_eql ⟨#[118]⟩ (mk u) f o 0 W
  clear hs hol hul ho
  have k1 : ¬ a < 1 := by omega
  have k2 : ¬ 7 < a := by omega
  have k3 : ¬ b < 1 := by omega
  have k4 : ¬ 7 < b := by omega
  have k5 : ¬ (1000 : Int) < (v.length : Int) := by omega
  have hHc := hide' hcase
  have hHy := hide' hyb
  clear hcase hyb
  go_enter Try.func5, Try.ntmps5
  go_wp2_with fail
  refine (alive_any w).mono ?_
  rintro r w1 ⟨rfl, hb1⟩
  go_wp2_with fail
  refine (new_any w1).mono ?_
  rintro r w2 ⟨rfl, rfl⟩
  go_wp2_with fail
  refine (Q1.out w1 _ w1.heap.size w1.heap.size (Nat.le_refl _) (Sw.new w1)).mono ?_
  rintro r w3 ⟨rfl, h3, _⟩
  go_wp2_with fail
  refine (Q2.out w1 _ w1.heap.size w1.heap.size (Nat.le_refl _) h3).mono ?_
  rintro r w4 ⟨rfl, h4, _⟩
  go_wp2_with fail
  refine (Q3.out w1 _ w1.heap.size w1.heap.size (Nat.le_refl _) h4).mono ?_
  rintro r w5 ⟨rfl, h5⟩
  have h6 : Hid (∀ x, Sw w1.heap.size w1 (w5.alloc x) w1.heap.size (og u f o)) := fun x => h5.more (Nat.le_refl _) (below_alloc (Below.refl _ _) (Nat.le_refl _) x)
  have b6 : Hid (Bx (w5.alloc (.cells #[.string ⟨#[118]⟩, .string (mk u), .int .i64 f, .int .i64 o, .int .i64 0] 36)) w5.heap.size ⟨#[118]⟩ (mk u) f o 0) := heap_alloc_new w5 _
  clear h3 h4 h5
  go_wp2_with fail
  refine (Q4.out w1 _ w1.heap.size w1.heap.size (Nat.le_refl _) (h6.out _)).mono ?_
  rintro r w7 ⟨rfl, h7, hk7⟩
  go_wp2_with fail
  refine (Q5.out w1 _ w1.heap.size w1.heap.size (Nat.le_refl _) h7).mono ?_
  rintro r w8 ⟨rfl, h8, hk8⟩
  go_wp2_with fail
  refine (Q6.out w1 _ w1.heap.size w1.heap.size (Nat.le_refl _) h8).mono ?_
  rintro r w9 ⟨rfl, h9, hb9⟩
  have hB9 : Hid (Below w.heap.size w w9) := hb1.trans (h9.below.mono hb1.size)
  have b9 : Bx w9 w5.heap.size ⟨#[118]⟩ (mk u) f o 0 := Bx.below ((hk7.trans hk8) _ _ _ _ (by decide) b6.out) hb9
  have hs9 := b9.lt
  have c0 : ∀ x y, ((w9.alloc x).alloc y).cell? ⟨w5.heap.size, 0, none⟩ = some (.string ⟨#[118]⟩) := fun x y => ((b9.below (below_alloc (Below.refl _ _) (Nat.le_refl _) x)).below (below_alloc (Below.refl _ _) (Nat.le_refl _) y)).c0
  have c1 : ∀ x y, ((w9.alloc x).alloc y).cell? ⟨w5.heap.size, 1, none⟩ = some (.string (mk u)) := fun x y => ((b9.below (below_alloc (Below.refl _ _) (Nat.le_refl _) x)).below (below_alloc (Below.refl _ _) (Nat.le_refl _) y)).c1
  have c2 : ∀ x y, ((w9.alloc x).alloc y).cell? ⟨w5.heap.size, 2, none⟩ = some (.int .i64 f) := fun x y => ((b9.below (below_alloc (Below.refl _ _) (Nat.le_refl _) x)).below (below_alloc (Below.refl _ _) (Nat.le_refl _) y)).c2
  have c3 : ∀ x y, ((w9.alloc x).alloc y).cell? ⟨w5.heap.size, 3, none⟩ = some (.int .i64 o) := fun x y => ((b9.below (below_alloc (Below.refl _ _) (Nat.le_refl _) x)).below (below_alloc (Below.refl _ _) (Nat.le_refl _) y)).c3
  have c4 : ∀ x y, ((w9.alloc x).alloc y).cell? ⟨w5.heap.size, 4, none⟩ = some (.int .i64 0) := fun x y => ((b9.below (below_alloc (Below.refl _ _) (Nat.le_refl _) x)).below (below_alloc (Below.refl _ _) (Nat.le_refl _) y)).c4
  clear hb1 h7 h8 h9 hk7 hk8 hb9 b9 h6 b6 Q1 Q2 Q3 Q4 Q5 Q6
  rcases hHc.out with ⟨hab, rfl, rfl, rfl⟩ | ⟨hab, rfl, rfl, rfl⟩
  · have hyt : yb = true := by rw [hHy.out]; simp; omega
    subst hyt
    go_wp2
    go_ret
    exact ⟨rfl, below_alloc (below_alloc hB9.out (Nat.le_refl _) _) (Nat.le_refl _) _⟩
  · have hyt : yb = false := by rw [hHy.out]; simp; omega
    subst hyt
    have hab' : ¬ o ≤ b := by omega
    go_wp2
    go_ret
    refine ⟨?_, below_alloc (below_alloc hB9.out (Nat.le_refl _) _) (Nat.le_refl _) _⟩
    show Ending.returned (.bool (!decide (o ≤ b))) = _
    rw [decide_eq_false (by omega : ¬ o ≤ b)]
    rfl
theorem og_out (a b : Int) (v : Bs) (w : World) (h : ¬ (1 ≤ a ∧ a ≤ 7 ∧ 1 ≤ b ∧ b ≤ 7 ∧ v.length ≤ 1000)) :
    Calls Try.prog 5 #[.int .i64 a, .int .i64 b, .string (mk v)] w fun r w' => r = .returned (.bool true) ∧ Below w.heap.size w w' := by
  have k : (decide (a < 1) || decide (7 < a) || decide (b < 1) || decide (7 < b) || decide ((1000 : Int) < (v.length : Int))) = true := by
    simp only [Bool.or_eq_true, decide_eq_true_eq]
    omega
  have q := alive_any w
  by_cases h1 : a < 1
  · clear h k
    go_enter Try.func5, Try.ntmps5
    go_wp2_with fail
    refine q.mono ?_
    rintro r w1 ⟨rfl, hb1⟩
    go_wp2
    go_ret
    exact ⟨rfl, hb1⟩
  by_cases h2 : 7 < a
  · clear h k
    go_enter Try.func5, Try.ntmps5
    go_wp2_with fail
    refine q.mono ?_
    rintro r w1 ⟨rfl, hb1⟩
    go_wp2
    go_ret
    exact ⟨rfl, hb1⟩
  by_cases h3 : b < 1
  · clear h k
    go_enter Try.func5, Try.ntmps5
    go_wp2_with fail
    refine q.mono ?_
    rintro r w1 ⟨rfl, hb1⟩
    go_wp2
    go_ret
    exact ⟨rfl, hb1⟩
  by_cases h4 : 7 < b
  · clear h k
    go_enter Try.func5, Try.ntmps5
    go_wp2_with fail
    refine q.mono ?_
    rintro r w1 ⟨rfl, hb1⟩
    go_wp2
    go_ret
    exact ⟨rfl, hb1⟩
  have h5 : (1000 : Int) < (v.length : Int) := by omega
  clear h k
  go_enter Try.func5, Try.ntmps5
  go_wp2_with fail
  refine q.mono ?_
  rintro r w1 ⟨rfl, hb1⟩
  go_wp2
  go_ret
  exact ⟨rfl, hb1⟩
theorem og_any (a b : Int) (v : Bs) (w : World) :
    Calls Try.prog 5 #[.int .i64 a, .int .i64 b, .string (mk v)] w fun r w' => r = .returned (.bool true) ∧ Below w.heap.size w w' := by
  by_cases h : 1 ≤ a ∧ a ≤ 7 ∧ 1 ≤ b ∧ b ≤ 7 ∧ v.length ≤ 1000
  · exact og_main a b v w h.1 h.2.1 h.2.2.1 h.2.2.2.1 h.2.2.2.2
  · exact og_out a b v w h
end Go.Proofs.Ytillechackcbpaa
