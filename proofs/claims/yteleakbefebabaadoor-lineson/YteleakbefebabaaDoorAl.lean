/- The contract of the laws' own look that the program is alive. -/
import Derived.Test.YteleakbefebabaaDoorNext
import Derived.Test.YteleakbefebabaaDoorLists
namespace Go.Proofs.YteleakbefebabaaDoor
open Go.RowKit Go.Shelf

def aL : List ByteArray := [⟨#[97, 32, 92]⟩, ⟨#[32, 32, 98]⟩, ⟨#[99]⟩]
theorem aK : kindP (rawK (aL.map tl) 0) (rawT (aL.map tl) 0) = 2 := by decide +kernel
theorem aT : textP (rawK (aL.map tl) 0) (rawT (aL.map tl) 0) = [97, 32, 98] := by decide +kernel
theorem aN : (jn ((aL.map tl).drop 0)).length = 2 := by decide +kernel
theorem aB : bare [97, 92, 35, 98, 32, 35, 32, 99] = [97, 35, 98, 32] := by decide +kernel
theorem aZ : Szs aL := ⟨by decide, fun j => by
  match j with
  | 0 => decide
  | 1 => decide
  | 2 => decide
  | j + 3 => show (ByteArray.mk #[]).size ≤ 1000000; decide, by decide +kernel⟩
set_option maxHeartbeats 1000000 in
theorem alive_any (w : World) : Calls Tryd.prog 6 #[] w fun e w' => e = .returned (.bool true) ∧ Below w.heap.size w w' := by
  have hT : ∀ W : World, Txt (W.alloc (.cells #[.string ⟨#[97, 32, 92]⟩, .string ⟨#[32, 32, 98]⟩, .string ⟨#[99]⟩] 9)) (some ⟨W.heap.size, 0, none⟩) aL := fun W k hk => by
    refine ⟨W.heap.size, 0, rfl, by simp, ?_⟩
    match k, hk with
    | 0, _ => simp [aL]
    | 1, _ => simp [aL]
    | 2, _ => simp [aL]
  have hk := fun W => next_some aL W.heap.size 0 3 0 (W.alloc (.cells #[.string ⟨#[97, 32, 92]⟩, .string ⟨#[32, 32, 98]⟩, .string ⟨#[99]⟩] 9)) aZ (hT W) (by decide) (by decide)
  rw [aK, aT, aN] at hk
  have hk2 : ∀ W : World, Calls Tryd.prog 13 #[.slice (some ⟨W.heap.size, 0, none⟩) 3 3, .int .i64 0] (W.alloc (.cells #[.string ⟨#[97, 32, 92]⟩, .string ⟨#[32, 32, 98]⟩, .string ⟨#[99]⟩] 9)) fun e w' => e = .returned (.tuple #[.agg #[.int .i64 2, .int .i64 1, .string ⟨#[97, 32, 98]⟩], .int .i64 2]) ∧ Below (W.heap.size + 1) (W.alloc (.cells #[.string ⟨#[97, 32, 92]⟩, .string ⟨#[32, 32, 98]⟩, .string ⟨#[99]⟩] 9)) w' := fun W => by
    have := hk W
    rw [World.size_alloc] at this
    exact this
  have kb := fun w => bare_any ⟨#[97, 92, 35, 98, 32, 35, 32, 99]⟩ w (by decide)
  have kb2 : ∀ w, Calls Tryd.prog 11 #[.string ⟨#[97, 92, 35, 98, 32, 35, 32, 99]⟩] w fun e w' => e = .returned (.string ⟨#[97, 35, 98, 32]⟩) ∧ Below w.heap.size w w' := fun w => by
    have := kb w
    rw [show tl ⟨#[97, 92, 35, 98, 32, 35, 32, 99]⟩ = [97, 92, 35, 98, 32, 35, 32, 99] from rfl, aB] at this
    exact this
  clear hk kb hT
  go_enter Tryd.func6, Tryd.ntmps6
  go_wp2_with fail
  refine (hk2 _).mono ?_
  rintro e w1 ⟨rfl, hb1⟩
  have hbe : Below w.heap.size w w1 := ((Below.refl _ w).alloc (Nat.le_refl _) _).trans (hb1.mono (by omega))
  go_wp2_with (go_at_call 11; refine (kb2 _).mono ?_; rintro e w2 ⟨rfl, hb2⟩)
  go_ret
  exact ⟨rfl, (hbe.alloc hbe.size _).trans (hb2.mono (by have := hbe.size; simp; omega))⟩
end Go.Proofs.YteleakbefebabaaDoor
