/- passSep; pipe. -/
import Derived.Test.YtbljbhlndjhhdaaGreatDoorGl2
import Derived.Test.YtbljbhlndjhhdaaGreatDoorFloat2
namespace Go.Proofs.YtbljbhlndjhhdaaGreatDoor
open Go.RowKit

set_option maxHeartbeats 2000000 in
theorem sep_none {w : World} {x : Cx} {s : PS} (h : PsAt w x s) (he : sepP s = none) : Calls Tryz.prog 60 #[ptr x.A] w fun e w' => e = .returned (.bool false) ∧ PsAt w' x s ∧ Gr x w w' := by
  have hn : tx s.ts ≠ [59] ∧ tx s.ts ≠ [10] := by
    unfold sepP at he
    split at he
    · cases he
    · rename_i h1; exact ⟨fun e => h1 (.inl e), fun e => h1 (.inr e)⟩
  have q := pass_no h [59] hn.1
  have HH := hide' (And.intro h hn.2)
  clear h he hn
  go_enter Tryz.func60, Tryz.ntmps60
  go_wp2_with fail
  refine q.mono ?_
  rintro e w1 ⟨rfl, n, hw1⟩
  clear q
  have q := pass_no (show PsAt w1 x s by rw [hw1]; exact HH.out.1.drewN n) [10] HH.out.2
  have HN := hide' (show PsAt w1 x s ∧ Gr x w w1 by rw [hw1]; exact ⟨HH.out.1.drewN n, Gr.drewN x w n⟩)
  clear hw1
  dsimp only
  go_wp2_with fail
  refine q.mono ?_
  rintro e w2 ⟨rfl, m, hw2⟩
  clear q
  dsimp only
  have HM := hide' hw2
  clear hw2
  go_wp2
  go_ret
  exact ⟨rfl, by rw [HM.out]; exact ⟨HN.out.1.drewN m, HN.out.2.trans (Gr.drewN x _ m)⟩⟩
set_option maxHeartbeats 2000000 in
theorem sep_some {w : World} {x : Cx} {s s' : PS} (h : PsAt w x s) (he : sepP s = some s') : Calls Tryz.prog 60 #[ptr x.A] w fun e w' => e = .returned (.bool true) ∧ PsAt w' x s' ∧ Gr x w w' := by
  have hn : (tx s.ts = [59] ∨ tx s.ts = [10]) ∧ s.nx.sk = s' := by
    unfold sepP at he
    split at he
    · rename_i h1; exact ⟨h1, Option.some.inj he⟩
    · cases he
  obtain ⟨hn, rfl⟩ := hn
  clear he
  by_cases h59 : tx s.ts = [59]
  · have q := pass_yes h [59] (by simp) h59
    clear h hn h59
    go_enter Tryz.func60, Tryz.ntmps60
    go_wp2_with fail
    refine q.mono ?_
    rintro e w1 ⟨rfl, h1, g1⟩
    clear q
    have q := skip_any h1
    have HG := hide' g1
    clear g1 h1
    dsimp only
    go_wp2_with fail
    refine q.mono ?_
    rintro e w2 ⟨rfl, h2, g2⟩
    have HJ := hide' (And.intro h2 (HG.out.trans g2))
    clear q h2 g2
    dsimp only
    go_wp2
    go_ret
    exact ⟨rfl, HJ.out⟩
  · have h10 : tx s.ts = [10] := by rcases hn with e | e; exact absurd e h59; exact e
    have q := pass_no h [59] h59
    have HH := hide' h
    clear h hn h59
    go_enter Tryz.func60, Tryz.ntmps60
    go_wp2_with fail
    refine q.mono ?_
    rintro e w0 ⟨rfl, n, hw0⟩
    clear q
    have q := pass_yes (show PsAt w0 x s by rw [hw0]; exact HH.out.drewN n) [10] (by simp) h10
    have HG0 := hide' (show Gr x w w0 by rw [hw0]; exact Gr.drewN x w n)
    clear hw0 h10
    dsimp only
    go_wp2_with fail
    refine q.mono ?_
    rintro e w1 ⟨rfl, h1, g1⟩
    clear q
    have q := skip_any h1
    have HG := hide' (HG0.out.trans g1)
    clear g1 h1
    dsimp only
    go_wp2_with fail
    refine q.mono ?_
    rintro e w2 ⟨rfl, h2, g2⟩
    have HJ := hide' (And.intro h2 (HG.out.trans g2))
    clear q h2 g2
    dsimp only
    go_wp2
    go_ret
    exact ⟨rfl, HJ.out⟩
end Go.Proofs.YtbljbhlndjhhdaaGreatDoor
