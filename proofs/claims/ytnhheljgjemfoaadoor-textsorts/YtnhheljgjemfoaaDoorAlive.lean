/- The contract of anvillaw1.alive: it answers true, and nothing that lay in memory has turned. -/
import Derived.Test.YtnhheljgjemfoaaDoorSplit
import Derived.Test.YtnhheljgjemfoaaDoorRepl
import Derived.Test.YtnhheljgjemfoaaDoorNum
import Derived.Lib.SmallJoins
namespace Go.Proofs.YtnhheljgjemfoaaDoor
open Go.RowKit Go.Shelf

/-- what the library's variables hold: MaxLen some number, the table of powers its own numbers -/
structure Env (w : World) : Prop where
  mx : Mx w
  tab : Lib.TabIs Tryd.prog w "internal/strconv.uint64pow10" .u64 Lib.pow10Tab
theorem g3 : Tryd.prog.globalNamed "internal/strconv.uint64pow10" = some 3 := by kernel_rfl
theorem Mx.pos {w : World} (h : Mx w) : 0 < w.heap.size := by
  obtain ⟨m, hm⟩ := h
  unfold World.cell? at hm
  cases h0 : w.heap[0]? with
  | none => simp [h0] at hm
  | some o => exact (Array.getElem?_eq_some_iff.1 h0).1
theorem Env.below {w w' : World} (h : Env w) (hb : Below w.heap.size w w') : Env w' := ⟨h.mx.below hb h.mx.pos, Joins.tab_stays g3 h.tab hb (Nat.le_refl _)⟩

theorem aR (w : World) (h : Mx w) : Calls Tryd.prog 12 #[.string ⟨#[97, 97, 97]⟩, .string ⟨#[97, 97]⟩, .string ⟨#[98]⟩] w fun e w' => e = .returned (.tuple #[.string ⟨#[98, 97]⟩, .int .i64 0]) ∧ Below w.heap.size w w' := by
  have e : rtxt ⟨#[97, 97, 97]⟩ ⟨#[97, 97]⟩ ⟨#[98]⟩ = ⟨#[98, 97]⟩ := by decide +kernel
  have l : rlen ⟨#[97, 97, 97]⟩ ⟨#[97, 97]⟩ ⟨#[98]⟩ = 2 := by decide +kernel
  have := replace_some ⟨#[97, 97, 97]⟩ ⟨#[97, 97]⟩ ⟨#[98]⟩ w (by decide) (by decide) (by decide) (by decide) h (by rw [l]; decide) (by rw [e]; decide)
  rwa [e] at this
theorem aN (w : World) : Calls Tryd.prog 13 #[.string ⟨#[48, 48, 55]⟩] w fun e w' => e = .returned (.tuple #[.int .i64 7, .bool true]) ∧ w' = w := by
  have := number_any ⟨#[48, 48, 55]⟩ w (by decide)
  have e1 : numOf (⟨#[48, 48, 55]⟩ : ByteArray).data.toList = 7 := by decide +kernel
  have e2 : isNum (⟨#[48, 48, 55]⟩ : ByteArray).data.toList = true := by decide +kernel
  rwa [e1, e2] at this
theorem aD (w : World) (h : Env w) : Calls Tryd.prog 15 #[.int .i64 (-5)] w fun e w' => e = .returned (.string ⟨#[45, 53]⟩) ∧ Below w.heap.size w w' := by
  have := decimal_any (-5) (by decide) (by decide) w h.tab
  have e1 : Lib.itoa (-5) = [45, 53] := by
    have := Lib.itoa_neg 5 (by decide)
    rw [Lib.decDigits_one (by decide)] at this
    exact this
  rwa [e1] at this
theorem aS (w : World) : Calls Tryd.prog 16 #[.string ⟨#[32, 97, 32, 32, 98, 9, 99]⟩] w fun e w' => (∃ g cap, e = .returned (.slice (some ⟨g, 0, none⟩) 3 cap)) ∧ Below w.heap.size w w' := by
  refine (split_any ⟨#[32, 97, 32, 32, 98, 9, 99]⟩ (by decide) w).mono ?_
  rintro e W' ⟨v, ys, rfl, hys, hrow, hb⟩
  have hl : ys.length = 3 := by
    have := congrArg List.length hys
    rw [List.length_map] at this
    exact this.trans (by decide +kernel)
  rw [hl] at hrow
  obtain ⟨g, cap, rfl⟩ := ownsRow_succ hrow
  exact ⟨⟨g, cap, rfl⟩, hb⟩

set_option maxHeartbeats 400000 in
theorem alive_any (w : World) (h : Env w) :
    Calls Tryd.prog 4 #[] w fun e w' => e = .returned (.bool true) ∧ Below w.heap.size w w' := by
  go_enter Tryd.func4, Tryd.ntmps4
  go_wp2_with fail
  refine (aR _ h.mx).mono ?_
  rintro e w1 ⟨rfl, hb1⟩
  have h1 := h.below hb1
  go_wp2_with fail
  refine (aN _).mono ?_
  rintro e w1' ⟨rfl, rfl⟩
  go_wp2_with fail
  refine (num_any _ _).mono ?_
  rintro e w1'' ⟨rfl, rfl⟩
  go_wp2_with fail
  refine (aD _ h1).mono ?_
  rintro e w2 ⟨rfl, hb2⟩
  go_wp2_with fail
  refine (aS _).mono ?_
  rintro e w3 ⟨⟨g, cap, rfl⟩, hb3⟩
  go_wp2
  go_ret
  exact ⟨rfl, (hb1.trans (hb2.mono hb1.size)).trans (hb3.mono (Nat.le_trans hb1.size hb2.size))⟩
end Go.Proofs.YtnhheljgjemfoaaDoor
