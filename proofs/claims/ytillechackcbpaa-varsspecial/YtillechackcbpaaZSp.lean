/- The contract of vars.Special. -/
import Derived.Test.YtillechackcbpaaZEach
namespace Go.Proofs.Ytillechackcbpaa.Sp
open Go.RowKit Go.Shelf Go.Maps Go.Proofs.Ytillechackcbpaa.Pa

/-- what Special of a name of two bytes answers -/
def sp2 (L : Vs) (c d : UInt8) : ByteArray × Bool :=
  if (isAuto c && ((fnd L [c]).isSome && decide ((getV L [c]).origin = 7))) = true then (if d = 68 then (spW dirP (getV L [c]).value, true) else if d = 70 then (spW notDir (getV L [c]).value, true) else (⟨#[]⟩, false)) else (⟨#[]⟩, false)
def spec (L : Vs) : Bs → ByteArray × Bool
  | [c, d] => sp2 L c d
  | _ => (⟨#[]⟩, false)
theorem spec_no (L : Vs) (p : Bs) (h : p.length ≠ 2) : spec L p = (⟨#[]⟩, false) := by
  unfold spec
  split
  · exact absurd rfl h
  · rfl
def tupV (x : ByteArray × Bool) : Value := .tuple #[.string x.1, .bool x.2]
set_option maxRecDepth 100000 in
set_option maxHeartbeats 1000000 in
theorem special_no (A : Nat) (p : Bs) (w : World) (hp : p.length ≠ 2) :
    Calls Try.prog 18 #[.pointer (some ⟨A, 0, none⟩), .string (mk p)] w fun r w' => r = .returned (.tuple #[.string ⟨#[]⟩, .bool false]) ∧ w' = w := by
  have h1 : ((p.length : Int) == 2) = false := beq_eq_false_iff_ne.2 (by omega)
  go_enter Try.func18, Try.ntmps18
  go_wp2
  go_ret2
  exact ⟨rfl, rfl⟩
set_option maxRecDepth 100000 in
set_option maxHeartbeats 1000000 in
theorem special_out (A : Nat) (c d : UInt8) (w : World) (hc : isAuto c = false) :
    Calls Try.prog 18 #[.pointer (some ⟨A, 0, none⟩), .string (mk [c, d])] w fun r w' => r = .returned (.tuple #[.string ⟨#[]⟩, .bool false]) ∧ w' = w := by
  have q := fun W => contains_auto c W
  rw [hc] at q
  obtain ⟨s, hs⟩ : ∃ s, s = mk [c, d] := ⟨_, rfl⟩
  have h1 : s.size = 2 := by rw [hs]; rfl
  have h2 : s.extract 0 1 = ⟨#[c]⟩ := by rw [hs, ext_take, tl_mk]; rfl
  rw [← hs]
  clear hs
  go_enter Try.func18, Try.ntmps18
  go_wp2_with fail
  refine (q _).mono ?_
  rintro e w1 ⟨rfl, rfl⟩
  go_wp2
  go_ret2
  exact ⟨rfl, rfl⟩
theorem wpAnyC_two {P : Program} {md : Region.Mode} {ops : Array Oper} {Q : Exit → Act → World → Prop} {C : World → Prop} {i j : Nat} {fuel : Nat} {listed : Array Bool} {a : Act} {w : World} (hr : Region.ready md ops listed = [i, j]) (h : wpOp P ops Q i (fun a' w' => C w' ∧ wpAnyC P md ops C Q fuel (listed.setIfInBounds i true) a' w') a w)
    (h' : wpOp P ops Q j (fun a' w' => C w' ∧ wpAnyC P md ops C Q fuel (listed.setIfInBounds j true) a' w') a w) : wpAnyC P md ops C Q (fuel + 1) listed a w :=
  ⟨fun h0 => absurd (hr ▸ h0) (by simp), fun k hk => by
    rw [hr] at hk
    rcases List.mem_cons.1 hk with rfl | hk
    · exact h
    · rw [List.mem_singleton.1 hk]; exact h'⟩
end Go.Proofs.Ytillechackcbpaa.Sp
