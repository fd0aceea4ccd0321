/- The walk of the reference's Special. -/
import Derived.Test.YtillechackcbpaaZRw
namespace Go.Proofs.Ytillechackcbpaa.Sp
open Go.RowKit Go.Shelf Go.Maps Go.Proofs.Ytillechackcbpaa.Pa
set_option maxRecDepth 100000 in
set_option maxHeartbeats 1000000 in
theorem rs_no (R : Nat) (p : Bs) (w : World) (hp : p.length ≠ 2) :
    Calls Try.prog 19 #[.pointer (some ⟨R, 0, none⟩), .string (mk p)] w fun r w' => r = .returned (.tuple #[.string ⟨#[]⟩, .bool false]) ∧ w' = w := by
  have h1 : ((p.length : Int) == 2) = false := beq_eq_false_iff_ne.2 (by omega)
  go_enter Try.func19, Try.ntmps19
  go_wp2
  go_ret2
  exact ⟨rfl, rfl⟩
set_option maxRecDepth 100000 in
set_option maxHeartbeats 4000000 in
theorem rs_x (R : Nat) (c d : UInt8) (w : World) (hd : d ≠ 68) (hd' : d ≠ 70) :
    Calls Try.prog 19 #[.pointer (some ⟨R, 0, none⟩), .string (mk [c, d])] w fun r w' => r = .returned (.tuple #[.string ⟨#[]⟩, .bool false]) ∧ Below w.heap.size w w' := by
  obtain ⟨s, hs⟩ : ∃ s, s = mk [c, d] := ⟨_, rfl⟩
  have h1 : s.size = 2 := by rw [hs]; rfl
  have h2 : s.extract 0 1 = ⟨#[c]⟩ := by rw [hs, ext_take, tl_mk]; rfl
  have h3 : ∀ hh : 1 < s.size, s[1] = d := by subst hs; intro _; rfl
  have h4 : ∀ hh : 0 < s.size, s[0] = c := by subst hs; intro _; rfl
  rw [← hs]
  clear hs
  have k68 : ((d.toNat : Int) != 68) = true := by have := beq_no d 68 68 rfl hd; simp only [bne, Bool.not_eq_true']; exact this
  have k70 : ((d.toNat : Int) != 70) = true := by have := beq_no d 70 70 rfl hd'; simp only [bne, Bool.not_eq_true']; exact this
  go_enter Try.func19, Try.ntmps19
  go_wp2
  go_ret2
  exact ⟨rfl, Below.refl _ _⟩
set_option maxRecDepth 100000 in
set_option maxHeartbeats 4000000 in
theorem rs_out68 (R : Nat) (c d : UInt8) (w : World) (hd : d = 68) (hc : isAuto c = false) :
    Calls Try.prog 19 #[.pointer (some ⟨R, 0, none⟩), .string (mk [c, d])] w fun r w' => r = .returned (.tuple #[.string ⟨#[]⟩, .bool false]) ∧ Below w.heap.size w w' := by
  obtain ⟨s, hs⟩ : ∃ s, s = mk [c, d] := ⟨_, rfl⟩
  have h1 : s.size = 2 := by rw [hs]; rfl
  have h2 : s.extract 0 1 = ⟨#[c]⟩ := by rw [hs, ext_take, tl_mk]; rfl
  have h3 : ∀ hh : 1 < s.size, s[1] = d := by subst hs; intro _; rfl
  have h4 : ∀ hh : 0 < s.size, s[0] = c := by subst hs; intro _; rfl
  rw [← hs]
  clear hs
  have q := fun W => rindex_auto c W
  rw [hc] at q
  subst hd
  go_enter Try.func19, Try.ntmps19
  go_wp2_with fail
  refine (q _).mono ?_
  rintro e w1 ⟨⟨k, rfl, hk⟩, rfl⟩
  have hk' : k < 0 := by simpa using hk
  clear hk q
  go_wp2
  go_ret2
  exact ⟨rfl, Below.refl _ _⟩
set_option maxRecDepth 100000 in
set_option maxHeartbeats 4000000 in
theorem rs_out70 (R : Nat) (c d : UInt8) (w : World) (hd : d = 70) (hc : isAuto c = false) :
    Calls Try.prog 19 #[.pointer (some ⟨R, 0, none⟩), .string (mk [c, d])] w fun r w' => r = .returned (.tuple #[.string ⟨#[]⟩, .bool false]) ∧ Below w.heap.size w w' := by
  obtain ⟨s, hs⟩ : ∃ s, s = mk [c, d] := ⟨_, rfl⟩
  have h1 : s.size = 2 := by rw [hs]; rfl
  have h2 : s.extract 0 1 = ⟨#[c]⟩ := by rw [hs, ext_take, tl_mk]; rfl
  have h3 : ∀ hh : 1 < s.size, s[1] = d := by subst hs; intro _; rfl
  have h4 : ∀ hh : 0 < s.size, s[0] = c := by subst hs; intro _; rfl
  rw [← hs]
  clear hs
  have q := fun W => rindex_auto c W
  rw [hc] at q
  subst hd
  go_enter Try.func19, Try.ntmps19
  go_wp2_with fail
  refine (q _).mono ?_
  rintro e w1 ⟨⟨k, rfl, hk⟩, rfl⟩
  have hk' : k < 0 := by simpa using hk
  clear hk q
  go_wp2
  go_ret2
  exact ⟨rfl, Below.refl _ _⟩
end Go.Proofs.Ytillechackcbpaa.Sp
