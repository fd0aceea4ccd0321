/- The contract of the law's alive. -/
import Derived.Test.YtkmedgdpcifnoaaDoorSm
import Derived.Deep.QuietTactic
import Derived.Deep.Cut
import Derived.Deep.CutBlock
namespace Go.Proofs.YtkmedgdpcifnoaaDoor
open Go.RowKit Go.Shelf

def fitB (m : Nat) (r : Ru) : Bool := r.ts.length ≤ 100000 && r.ps.length ≤ 100000 && r.os.length ≤ 100000 && r.rcp.length ≤ 100000 && r.ts.all (·.length ≤ m) && r.ps.all (·.length ≤ m) && r.os.all (·.length ≤ m) && r.rcp.all (·.length ≤ m) && r.sta.length ≤ m && r.aga.length ≤ m
theorem fit_of {m : Nat} {r : Ru} (h : fitB m r = true) : FitR m r := by
  simp only [fitB, Bool.and_eq_true, decide_eq_true_eq, List.all_eq_true] at h
  obtain ⟨⟨⟨⟨⟨⟨⟨⟨⟨h0, h1⟩, h2⟩, h3⟩, h4⟩, h5⟩, h6⟩, h7⟩, h8⟩, h9⟩ := h
  exact ⟨h0, h1, h2, h3, h4, h5, h6, h7, h8, h9⟩
theorem fit_all {m : Nat} {l : List Ru} (h : l.all (fitB m) = true) {L : List Rx} (hL : rs L = l) : ∀ x ∈ L, FitR m x.r := fun x hx => by
  have h1 : x.r ∈ rs L := List.mem_map.2 ⟨x, hx, rfl⟩
  rw [hL] at h1
  exact fit_of (List.all_eq_true.1 h _ h1)
theorem ex_fit : exR.all (fitB 100000000) = true := by decide
set_option maxRecDepth 100000 in
theorem ex_fit2 : (allP false exR).all (fitB 100000000) = true := by decide
theorem rs_get {L : List Rx} {l : List Ru} (h : rs L = l) (k : Nat) (r : Ru) (hk : l[k]? = some r) : k < L.length ∧ (L.getD k zeroRx).r = r := by
  have hlt : k < L.length := by
    rw [← rs_len, h]
    exact (List.getElem?_eq_some_iff.1 hk).1
  refine ⟨hlt, ?_⟩
  rw [← h] at hk
  unfold rs at hk
  rw [List.getElem?_map, List.getElem?_eq_getElem hlt] at hk
  rw [List.getD_eq_getElem?_getD, List.getElem?_eq_getElem hlt]
  simpa using hk
theorem ex_first : (allP false exR)[0]? = some ⟨[[37, 46, 111]], [[37, 46, 99]], [], false, true, false, [], [[120]], true, [], false⟩ := by kernel_rfl
theorem ex_second : exR[1]? = some ⟨[[46, 80, 72, 79, 78, 89]], [[97]], [], false, false, false, [], [], false, [], false⟩ := by rfl
theorem ex_pho : plaP exR (allP false exR) 3 [46, 80, 72, 79, 78, 89] 0 = [1] := by decide
theorem ex_a : plaP exR (allP false exR) 3 [97] 2 = [] := by decide
theorem ex_b : plaP exR (allP false exR) 3 [98] 2 = [2] := by decide
set_option maxRecDepth 100000 in
set_option maxHeartbeats 8000000 in
theorem alive_any (w : World) (hg : Glo w) : Calls Tryd.prog 6 #[] w fun e w' => e = .returned (.bool true) ∧ Below w.heap.size w w' := by
  have kS := small_any w
  have HG := hide' hg
  clear hg
  go_enter Tryd.func6, Tryd.ntmps6
  go_wp2_with fail
  refine kS.mono ?_
  rintro e w1 ⟨v, rfl, L, hL, hLr, hb1⟩
  dsimp only
  have hl3 : L.length = 3 := by rw [← rs_len, hLr]; rfl
  have kN := new_any L v w1 (HG.out.below hb1) hL (by omega) (fit_all ex_fit hLr)
  rw [hl3, hLr] at kN
  obtain ⟨va, vn, vc, rfl⟩ := rls_form3 hL
  clear kS hL hLr hl3
  go_wp2_with fail
  refine kN.mono ?_
  rintro e w2 ⟨D, rfl, M, BG, n, rv, lv, v3, R, A, hX, hR, hA, hn, hI⟩
  dsimp only
  clear kN
  rw [ex_imp] at hI
  have hA7 : A.length = 7 := by rw [← rs_len, hA]; exact ex_all
  have kR := rules_any D rv lv _ v3 A w2 hX.db hX.al.reads (by omega) (fit_all ex_fit2 hA)
  have HX := hide' (And.intro hX hI)
  have HA := hide' hA
  have HR := hide' hR
  have HA7 := hide' hA7
  clear hX hI hA hR hA7
  go_wp2_with fail
  refine kR.mono ?_
  rintro e w3 ⟨v', rfl, L', hO, hS, hb3⟩
  dsimp only
  have hL' : rs L' = allP false exR := (show rs L' = rs A from hS).trans HA.out
  have hl7 : L'.length = 7 := by rw [← rs_len, hL']; exact ex_all
  obtain ⟨_, hf0⟩ := rs_get hL' 0 _ ex_first
  obtain ⟨g, cap, rfl, hra, _⟩ := ownR_some hO 0 (by omega)
  rw [hl7]
  have hro := hO.lists _ (show L'.getD 0 zeroRx ∈ L' by rw [List.getD_eq_getElem?_getD, List.getElem?_eq_getElem (by omega)]; exact List.getElem_mem (by omega))
  generalize L'.getD 0 zeroRx = x0 at hf0 hra hro
  obtain ⟨xr, xa, xb, xc, xd⟩ := x0
  simp only at hf0
  subst hf0
  obtain ⟨t0, t1, _, _⟩ := hro
  simp only at t0 t1
  have q0 := hra.c0
  have q1 := hra.c1
  have q4 := hra.c4
  simp only [Nat.zero_add, Nat.zero_mul] at q0 q1 q4
  rcases t0.2 with ⟨_, h0⟩ | ⟨ga, ca, _, rfl, _⟩
  · cases h0
  rcases t1.2 with ⟨_, h0⟩ | ⟨gb, cb, _, rfl, _⟩
  · cases h0
  have p0 : w3.cell? ⟨ga, 0, none⟩ = some (.string ⟨#[37, 46, 111]⟩) := own_cell t0 0 (by simp)
  have p1 : w3.cell? ⟨gb, 0, none⟩ = some (.string ⟨#[37, 46, 99]⟩) := own_cell t1 0 (by simp)
  have hX3 := HX.out.1.below hb3
  have hI3 : w3.ownsInts w1.heap.size 3 .i64 v3 (nI [0, 4, 5, 6]) := ⟨own_below HX.out.2.1 hb3, HX.out.2.2⟩
  have kI := implicit_any D w1.heap.size rv lv _ v3 [0, 4, 5, 6] w3 hX3.db hI3 (by decide)
  have HX3 := hide' hX3
  clear hX3 hI3 t0 t1 hra hO hS hL' hl7 kR
  go_wp2_with fail
  refine kI.mono ?_
  rintro e w4 ⟨iv, rfl, hI4, hb4⟩
  obtain ⟨ia, ic, rfl⟩ := own_len hI4.1
  have e4 : (nI [0, 4, 5, 6]).length = 4 := rfl
  rw [e4]
  dsimp only
  have hX4 := HX3.out.below hb4
  obtain ⟨hk1, hk2⟩ := rs_get HR.out 1 _ ex_second
  have kP := special_one D w1.heap.size BG M n 1 _ rv lv v3 R [46, 80, 72, 79, 78, 89] [97] w4 hX4.db hX4.rd hX4.gr (by omega) (by decide) ex_pho hk1 (by decide) (by rw [hk2]; decide) (by rw [hk2]; decide)
  have HX4 := hide' hX4
  clear hX4 hk1 hk2 kI hI4 p0 p1 q0 q1 q4 e4
  go_wp2_with fail
  refine kP.mono ?_
  rintro e w5 ⟨rfl, hw5⟩
  subst hw5
  dsimp only
  have kA := named_any D BG M n _ rv lv v3 [97] false w5 HX4.out.db HX4.out.gr (by omega) (by decide) (by rw [ex_a]; simp)
  clear kP
  go_wp2_with fail
  refine kA.mono ?_
  rintro e w6 ⟨rfl, hb6⟩
  dsimp only
  have hX6 := HX4.out.below hb6
  have kB := named_any D BG M n _ rv lv v3 [98] true w6 hX6.db hX6.gr (by omega) (by decide) (by rw [ex_b]; simp)
  have HX6 := hide' hX6
  clear kA hX6
  go_wp2_with fail
  refine kB.mono ?_
  rintro e w7 ⟨rfl, hb7⟩
  dsimp only
  have hB : Below w.heap.size w w7 := by
    have h1 := hb1.trans (HX6.out.be.mono hb1.size)
    exact h1.trans (hb7.mono h1.size)
  clear kB
  go_wp2
  go_ret
  exact ⟨rfl, hB⟩
end Go.Proofs.YtkmedgdpcifnoaaDoor
