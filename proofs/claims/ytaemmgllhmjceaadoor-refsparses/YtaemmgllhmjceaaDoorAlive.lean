/- The contract of the law's alive. -/
import Derived.Test.YtaemmgllhmjceaaDoorParse
namespace Go.Proofs.YtaemmgllhmjceaaDoor
open Go.RowKit

def t1 : ByteArray := ⟨#[97, 36, 36, 98, 36, 120, 36, 40, 115, 117, 98, 115, 116, 32, 97, 44, 98, 44, 99, 44, 100, 41]⟩
def ps1 : List Pt := [⟨1, [97, 36, 98], [], []⟩, ⟨2, [120], [], []⟩, ⟨3, [], [115, 117, 98, 115, 116], [[97], [98], [99, 44, 100]]⟩]
set_option maxRecDepth 100000 in
theorem prs1 : prs (tl t1) (t1.size + 1) 0 [] [] = some ps1 := by kernel_rfl
def t2 : ByteArray := ⟨#[36, 40, 120]⟩
set_option maxRecDepth 100000 in
theorem prs2 : prs (tl t2) (t2.size + 1) 0 [] [] = none := by kernel_rfl
def t3 : ByteArray := ⟨#[97, 36, 40, 98, 61, 99, 41, 61, 100]⟩
set_option maxRecDepth 100000 in
theorem scn3 : scn (tl ⟨#[61, 58]⟩) (tl t3) (t3.size + 1) 0 = some 7 := by kernel_rfl
theorem num_any (k : Int) (w : World) : Calls Tryd.prog 11 #[.int .i64 k] w fun e w' => e = .returned (.int .i64 k) ∧ w' = w := by
  go_enter Tryd.func11, Tryd.ntmps11
  go_wp2
  go_ret
  exact ⟨rfl, rfl⟩
theorem three {L : List Px} {p q r : Pt} (h : L.map Prod.fst = [p, q, r]) : ∃ a b c, L = [(p, a), (q, b), (r, c)] := by
  have hl : L.length = 3 := by simpa using congrArg List.length h
  match L, hl with
  | [x, y, z], _ =>
    simp only [List.map_cons, List.map_nil, List.cons.injEq, and_true] at h
    obtain ⟨h1, h2, h3⟩ := h
    exact ⟨x.2, y.2, z.2, by rw [← h1, ← h2, ← h3]⟩
theorem one {L : List Px} {p : Pt} (h : L.map Prod.fst = [p]) : ∃ a, L = [(p, a)] := by
  have hl : L.length = 1 := by simpa using congrArg List.length h
  match L, hl with
  | [x], _ =>
    simp only [List.map_cons, List.map_nil, List.cons.injEq, and_true] at h
    exact ⟨x.2, by rw [← h]⟩
/-- a row's cells -/
theorem own_cells {w : World} {B e size n : Nat} {v : Value} {xs : List Value} (h : w.ownsRow B e size v n xs) (hn : 0 < n) : ∃ g cap, v = .slice (some ⟨g, 0, none⟩) n cap ∧ n ≤ cap ∧ cap ≤ maxLen ∧ g < w.heap.size ∧ B ≤ g ∧ ∀ j u, xs[j]? = some u → w.cell? ⟨g, j, none⟩ = some u := by
  rcases h.2 with ⟨_, h2⟩ | ⟨g, cap, cur, rfl, hg, hh, h3, h4, h5, h6⟩
  · omega
  · refine ⟨g, cap, rfl, h3, h4, lt_of_block hh, hg, fun j u hj => ?_⟩
    have hjl : j < n * size := by have := (List.getElem?_eq_some_iff.1 hj).1; rw [h.1] at this; exact this
    rw [Lib.cell_of_heap hh]
    rw [← h6, List.getElem?_take_of_lt hjl] at hj
    simpa using hj
set_option maxRecDepth 100000 in
set_option maxHeartbeats 4000000 in
theorem alive_any (w : World) (hF : FnsAt w 0) : Calls Tryd.prog 7 #[] w fun e w' => e = .returned (.bool true) ∧ Below w.heap.size w w' := by
  have k1 := parse_any t1 (by decide) w hF
  rw [prs1] at k1
  have k2 : ∀ w1, Below w.heap.size w w1 → _ := fun w1 hb => parse_any t2 (by decide) w1 (hF.below hb)
  rw [prs2] at k2
  have k3 := fun w1 => scan_any t3 ⟨#[61, 58]⟩ (by decide) (by decide) w1
  rw [scn3] at k3
  have kn := num_any
  simp only [t1] at k1
  simp only [t2, ParseR] at k2
  simp only [t3, clI] at k3
  go_enter Tryd.func7, Tryd.ntmps7
  go_upto_region 2 with (go_at_call 8; refine k1.mono ?_; rintro e w1 ⟨⟨v, rfl, L, hL, hlist, hargs⟩, hb1⟩)
  obtain ⟨a0, a1, a2, rfl⟩ : ∃ a0 a1 a2 : Value, L = [(⟨1, [97, 36, 98], [], []⟩, a0), (⟨2, [120], [], []⟩, a1), (⟨3, [], [115, 117, 98, 115, 116], [[97], [98], [99, 44, 100]]⟩, a2)] := by
    exact three hL
  have hA2 := hargs _ (List.mem_cons_of_mem _ (List.mem_cons_of_mem _ List.mem_cons_self))
  obtain ⟨g, cap, rfl, hc1, hc2, hgl, _, hcell⟩ := own_cells hlist (by simp)
  obtain ⟨ga, capa, hea, hd1, hd2, hgal, _, hcella⟩ := own_cells hA2 (by simp)
  simp only at hea
  subst hea
  have hq : ∀ w2, Below w1.heap.size w1 w2 → w2.cell? ⟨g, 1, none⟩ = some (.string ⟨#[97, 36, 98]⟩) ∧ w2.cell? ⟨g, 5, none⟩ = some (.string ⟨#[120]⟩) ∧ w2.cell? ⟨g, 10, none⟩ = some (.string ⟨#[115, 117, 98, 115, 116]⟩) ∧ w2.cell? ⟨g, 11, none⟩ = some (.slice (some ⟨ga, 0, none⟩) 3 capa) ∧ w2.cell? ⟨ga, 2, none⟩ = some (.string ⟨#[99, 44, 100]⟩) := fun w2 hb =>
    ⟨(hb.cell (p := ⟨g, 1, none⟩) hgl).trans (hcell 1 _ rfl), (hb.cell (p := ⟨g, 5, none⟩) hgl).trans (hcell 5 _ rfl), (hb.cell (p := ⟨g, 10, none⟩) hgl).trans (hcell 10 _ rfl), (hb.cell (p := ⟨g, 11, none⟩) hgl).trans (hcell 11 _ rfl), (hb.cell (p := ⟨ga, 2, none⟩) hgal).trans (hcella 2 _ rfl)⟩
  have HQ := hide' hq
  clear hq hcell hcella hargs hL hlist hA2 k1 hF
  have hd3 : (3 : Nat) ≤ capa := hd1
  go_wp2_with (first | (go_at_call 8; refine (k2 _ hb1).mono ?_; rintro e w2 ⟨rfl, hb2⟩; obtain ⟨q1, q2, q3, q4, q5⟩ := HQ.out w2 hb2) | (go_at_call 11; refine (kn _ _).mono ?_; rintro e w3 ⟨rfl, rfl⟩) | (go_at_call 13; refine (k3 _).mono ?_; rintro e w4 ⟨rfl, hb4⟩))
  go_ret
  have hB2 := hb1.trans (hb2.mono hb1.size)
  exact ⟨rfl, hB2.trans (hb4.mono hB2.size)⟩
end Go.Proofs.YtaemmgllhmjceaaDoor
