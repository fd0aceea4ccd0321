/- The walk of the reference's Special. -/
import Derived.Test.YtillechackcbpaaZRw
namespace Go.Proofs.Ytillechackcbpaa.Sp
open Go.RowKit Go.Shelf Go.Maps Go.Proofs.Ytillechackcbpaa.Pa
set_option maxRecDepth 100000 in
set_option maxHeartbeats 4000000 in
theorem rs_none68 (R : Nat) (v : Value) (L : Vs) (c d : UInt8) (w : World) (h : Rf w R v L) (hd : d = 68) (hc : isAuto c = true) (hf : (fnd L [c]).isSome = false) :
    Calls Try.prog 19 #[.pointer (some ⟨R, 0, none⟩), .string (mk [c, d])] w fun r w' => r = .returned (.tuple #[.string ⟨#[]⟩, .bool false]) ∧ Below w.heap.size w w' := by
  obtain ⟨s, hs⟩ : ∃ s, s = mk [c, d] := ⟨_, rfl⟩
  have h1 : s.size = 2 := by rw [hs]; rfl
  have h2 : s.extract 0 1 = ⟨#[c]⟩ := by rw [hs, ext_take, tl_mk]; rfl
  have h3 : ∀ hh : 1 < s.size, s[1] = d := by subst hs; intro _; rfl
  have h4 : ∀ hh : 0 < s.size, s[0] = c := by subst hs; intro _; rfl
  rw [← hs]
  clear hs
  have q := fun W => rindex_auto c W
  rw [hc] at q
  have q2 := rget_any R v L [c] w h
  subst hd
  clear h
  rw [hf] at q2
  generalize getV L [c] = g at q2 
  obtain ⟨xn, xv, xf, xo, xe⟩ := g
  dsimp only [vV] at q2 
  generalize mk xn = xn' at q2
  generalize mk xv = xv' at q2
  go_enter Try.func19, Try.ntmps19
  go_wp2_with fail
  refine (q _).mono ?_
  rintro e w1 ⟨⟨k, rfl, hk⟩, rfl⟩
  have hk' : ¬ k < 0 := by simpa using hk
  clear hk q
  go_wp2_with fail
  refine q2.mono ?_
  rintro r w2 ⟨rfl, hb2⟩
  have HX : Hid (Bx (w2.alloc (.cells #[.string xn', .string xv', .int .i64 xf, .int .i64 xo, .int .i64 xe] 36)) w2.heap.size xn' xv' xf xo xe) := heap_alloc_new w2 _
  have HB : Hid (Below w1.heap.size w1 (w2.alloc (.cells #[.string xn', .string xv', .int .i64 xf, .int .i64 xo, .int .i64 xe] 36))) := below_alloc hb2 (Nat.le_refl _) _
  have k1 := HX.out.c1
  have k3 := HX.out.c3
  clear HX hb2
  go_wp2
  go_ret2
  exact ⟨rfl, HB.out⟩
set_option maxRecDepth 100000 in
set_option maxHeartbeats 4000000 in
theorem rs_other68 (R : Nat) (v : Value) (L : Vs) (c d : UInt8) (w : World) (h : Rf w R v L) (hd : d = 68) (hc : isAuto c = true) (hf : (fnd L [c]).isSome = true) (ho : (getV L [c]).origin ≠ 7) :
    Calls Try.prog 19 #[.pointer (some ⟨R, 0, none⟩), .string (mk [c, d])] w fun r w' => r = .returned (.tuple #[.string ⟨#[]⟩, .bool false]) ∧ Below w.heap.size w w' := by
  obtain ⟨s, hs⟩ : ∃ s, s = mk [c, d] := ⟨_, rfl⟩
  have h1 : s.size = 2 := by rw [hs]; rfl
  have h2 : s.extract 0 1 = ⟨#[c]⟩ := by rw [hs, ext_take, tl_mk]; rfl
  have h3 : ∀ hh : 1 < s.size, s[1] = d := by subst hs; intro _; rfl
  have h4 : ∀ hh : 0 < s.size, s[0] = c := by subst hs; intro _; rfl
  rw [← hs]
  clear hs
  have q := fun W => rindex_auto c W
  rw [hc] at q
  have q2 := rget_any R v L [c] w h
  subst hd
  clear h
  rw [hf] at q2
  generalize getV L [c] = g at q2 ho
  obtain ⟨xn, xv, xf, xo, xe⟩ := g
  dsimp only [vV] at q2 ho
  generalize mk xn = xn' at q2
  generalize mk xv = xv' at q2
  have ho' : (xo == 7) = false := beq_eq_false_iff_ne.2 ho
  go_enter Try.func19, Try.ntmps19
  go_wp2_with fail
  refine (q _).mono ?_
  rintro e w1 ⟨⟨k, rfl, hk⟩, rfl⟩
  have hk' : ¬ k < 0 := by simpa using hk
  clear hk q
  go_wp2_with fail
  refine q2.mono ?_
  rintro r w2 ⟨rfl, hb2⟩
  have HX : Hid (Bx (w2.alloc (.cells #[.string xn', .string xv', .int .i64 xf, .int .i64 xo, .int .i64 xe] 36)) w2.heap.size xn' xv' xf xo xe) := heap_alloc_new w2 _
  have HB : Hid (Below w1.heap.size w1 (w2.alloc (.cells #[.string xn', .string xv', .int .i64 xf, .int .i64 xo, .int .i64 xe] 36))) := below_alloc hb2 (Nat.le_refl _) _
  have k1 := HX.out.c1
  have k3 := HX.out.c3
  clear HX hb2
  go_wp2
  go_ret2
  exact ⟨rfl, HB.out⟩
set_option maxRecDepth 100000 in
set_option maxHeartbeats 4000000 in
theorem rs_none70 (R : Nat) (v : Value) (L : Vs) (c d : UInt8) (w : World) (h : Rf w R v L) (hd : d = 70) (hc : isAuto c = true) (hf : (fnd L [c]).isSome = false) :
    Calls Try.prog 19 #[.pointer (some ⟨R, 0, none⟩), .string (mk [c, d])] w fun r w' => r = .returned (.tuple #[.string ⟨#[]⟩, .bool false]) ∧ Below w.heap.size w w' := by
  obtain ⟨s, hs⟩ : ∃ s, s = mk [c, d] := ⟨_, rfl⟩
  have h1 : s.size = 2 := by rw [hs]; rfl
  have h2 : s.extract 0 1 = ⟨#[c]⟩ := by rw [hs, ext_take, tl_mk]; rfl
  have h3 : ∀ hh : 1 < s.size, s[1] = d := by subst hs; intro _; rfl
  have h4 : ∀ hh : 0 < s.size, s[0] = c := by subst hs; intro _; rfl
  rw [← hs]
  clear hs
  have q := fun W => rindex_auto c W
  rw [hc] at q
  have q2 := rget_any R v L [c] w h
  subst hd
  clear h
  rw [hf] at q2
  generalize getV L [c] = g at q2 
  obtain ⟨xn, xv, xf, xo, xe⟩ := g
  dsimp only [vV] at q2 
  generalize mk xn = xn' at q2
  generalize mk xv = xv' at q2
  go_enter Try.func19, Try.ntmps19
  go_wp2_with fail
  refine (q _).mono ?_
  rintro e w1 ⟨⟨k, rfl, hk⟩, rfl⟩
  have hk' : ¬ k < 0 := by simpa using hk
  clear hk q
  go_wp2_with fail
  refine q2.mono ?_
  rintro r w2 ⟨rfl, hb2⟩
  have HX : Hid (Bx (w2.alloc (.cells #[.string xn', .string xv', .int .i64 xf, .int .i64 xo, .int .i64 xe] 36)) w2.heap.size xn' xv' xf xo xe) := heap_alloc_new w2 _
  have HB : Hid (Below w1.heap.size w1 (w2.alloc (.cells #[.string xn', .string xv', .int .i64 xf, .int .i64 xo, .int .i64 xe] 36))) := below_alloc hb2 (Nat.le_refl _) _
  have k1 := HX.out.c1
  have k3 := HX.out.c3
  clear HX hb2
  go_wp2
  go_ret2
  exact ⟨rfl, HB.out⟩
set_option maxRecDepth 100000 in
set_option maxHeartbeats 4000000 in
theorem rs_other70 (R : Nat) (v : Value) (L : Vs) (c d : UInt8) (w : World) (h : Rf w R v L) (hd : d = 70) (hc : isAuto c = true) (hf : (fnd L [c]).isSome = true) (ho : (getV L [c]).origin ≠ 7) :
    Calls Try.prog 19 #[.pointer (some ⟨R, 0, none⟩), .string (mk [c, d])] w fun r w' => r = .returned (.tuple #[.string ⟨#[]⟩, .bool false]) ∧ Below w.heap.size w w' := by
  obtain ⟨s, hs⟩ : ∃ s, s = mk [c, d] := ⟨_, rfl⟩
  have h1 : s.size = 2 := by rw [hs]; rfl
  have h2 : s.extract 0 1 = ⟨#[c]⟩ := by rw [hs, ext_take, tl_mk]; rfl
  have h3 : ∀ hh : 1 < s.size, s[1] = d := by subst hs; intro _; rfl
  have h4 : ∀ hh : 0 < s.size, s[0] = c := by subst hs; intro _; rfl
  rw [← hs]
  clear hs
  have q := fun W => rindex_auto c W
  rw [hc] at q
  have q2 := rget_any R v L [c] w h
  subst hd
  clear h
  rw [hf] at q2
  generalize getV L [c] = g at q2 ho
  obtain ⟨xn, xv, xf, xo, xe⟩ := g
  dsimp only [vV] at q2 ho
  generalize mk xn = xn' at q2
  generalize mk xv = xv' at q2
  have ho' : (xo == 7) = false := beq_eq_false_iff_ne.2 ho
  go_enter Try.func19, Try.ntmps19
  go_wp2_with fail
  refine (q _).mono ?_
  rintro e w1 ⟨⟨k, rfl, hk⟩, rfl⟩
  have hk' : ¬ k < 0 := by simpa using hk
  clear hk q
  go_wp2_with fail
  refine q2.mono ?_
  rintro r w2 ⟨rfl, hb2⟩
  have HX : Hid (Bx (w2.alloc (.cells #[.string xn', .string xv', .int .i64 xf, .int .i64 xo, .int .i64 xe] 36)) w2.heap.size xn' xv' xf xo xe) := heap_alloc_new w2 _
  have HB : Hid (Below w1.heap.size w1 (w2.alloc (.cells #[.string xn', .string xv', .int .i64 xf, .int .i64 xo, .int .i64 xe] 36))) := below_alloc hb2 (Nat.le_refl _) _
  have k1 := HX.out.c1
  have k3 := HX.out.c3
  clear HX hb2
  go_wp2
  go_ret2
  exact ⟨rfl, HB.out⟩
end Go.Proofs.Ytillechackcbpaa.Sp
