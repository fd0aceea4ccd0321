/- The contracts of the law's num and alive. -/
import Derived.Test.YtbnpblgapdmkmaaDoorPq
namespace Go.Proofs.YtbnpblgapdmkmaaDoor
open Go.RowKit Go.Shelf

theorem num_any (n : Int) (w : World) : Calls Tryd.prog 10 #[.int .i64 n] w fun e w' => e = .returned (.int .i64 n) ∧ w' = w := by
  go_enter Tryd.func10, Tryd.ntmps10
  go_wp2
  go_ret
  exact ⟨rfl, rfl⟩
/-- the tokens' cells -/
theorem own_cells {w : World} {B e size n : Nat} {v : Value} {xs : List Value} (h : w.ownsRow B e size v n xs) (hn : 0 < n) : ∃ g cap, v = .slice (some ⟨g, 0, none⟩) n cap ∧ n ≤ cap ∧ cap ≤ maxLen ∧ g < w.heap.size ∧ ∀ j u, xs[j]? = some u → w.cell? ⟨g, j, none⟩ = some u := by
  rcases h.2 with ⟨_, h2⟩ | ⟨g, cap, cur, rfl, hg, hh, h3, h4, h5, h6⟩
  · omega
  · refine ⟨g, cap, rfl, h3, h4, lt_of_block hh, fun j u hj => ?_⟩
    have hjl : j < n * size := by
      have := (List.getElem?_eq_some_iff.1 hj).1
      rw [h.1] at this
      exact this
    rw [Lib.cell_of_heap hh]
    rw [← h6, List.getElem?_take_of_lt hjl] at hj
    simpa using hj
def aliveT : Bs := [97, 32, 39, 98, 32, 99, 39, 34, 100, 34, 59, 101, 38, 38, 102, 62, 103, 32, 35, 32, 104]
def aliveK : List (Nat × Bs) := [(1, [97]), (1, [39, 98, 32, 99, 39, 34, 100, 34]), (2, [59]), (1, [101]), (2, [38, 38]), (1, [102]), (2, [62]), (1, [103]), (4, [])]
theorem alive_run : run (joinedB aliveT) 60 .bw ⟨0, 0, [], []⟩ = .toks aliveK := by kernel_rfl
theorem alive_run2 : run (joinedB [39, 97]) 60 .bw ⟨0, 0, [], []⟩ = .err 30 := by kernel_rfl
set_option maxHeartbeats 1000000 in
theorem alive_any (w : World) (hG : Glob w) : Calls Tryd.prog 7 #[] w fun e w' => e = .returned (.bool true) ∧ Below w.heap.size w w' := by
  have q1 := lex_toks (mk aliveT) w 60 aliveK (by decide) hG (by rw [tl_mk]; exact alive_run)
  have q2 := fun w hG => lex_err (mk [39, 97]) w 60 30 (by decide) hG (by rw [tl_mk]; exact alive_run2)
  have qn := fun n w => num_any n w
  have HG := hide' hG
  clear hG
  go_enter Tryd.func7, Tryd.ntmps7
  go_wp2_with fail
  refine q1.mono ?_
  rintro e w1 ⟨hb1, tv, rfl, hown, hle⟩
  have hG1 := HG.out.below hb1
  clear q1 hle
  obtain ⟨g, cap, rfl, hcap, hcm, hgl, hc⟩ := own_cells hown (by decide)
  have k1 := hc 3 (.string (mk [39, 98, 32, 99, 39, 34, 100, 34])) rfl
  have k2 := hc 9 (.string (mk [38, 38])) rfl
  have k3 := hc 16 (.int .i64 4) rfl
  have HB1 := hide' hb1
  have hn9 : aliveK.length = 9 := rfl
  rw [hn9] at hcap
  rw [hn9]
  clear hown hc hb1
  go_wp2_with fail
  refine (q2 _ hG1).mono ?_
  rintro e w2 ⟨hb2, rfl⟩
  have d1 := (hb2.cell (p := ⟨g, 3, none⟩) hgl).trans k1
  have d2 := (hb2.cell (p := ⟨g, 9, none⟩) hgl).trans k2
  have d3 := (hb2.cell (p := ⟨g, 16, none⟩) hgl).trans k3
  have HB2 := hide' (HB1.out.trans (hb2.mono HB1.out.size))
  clear hb2 k1 k2 k3 q2 hG1
  go_wp2_with (go_at_call 10; refine (qn _ _).mono ?_; rintro e w' ⟨rfl, rfl⟩)
  go_ret
  exact ⟨rfl, HB2.out⟩
end Go.Proofs.YtbnpblgapdmkmaaDoor
