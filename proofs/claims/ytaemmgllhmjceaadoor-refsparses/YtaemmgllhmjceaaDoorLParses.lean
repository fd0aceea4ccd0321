/- The law RefsParses answers true. -/
import Derived.Test.YtaemmgllhmjceaaDoorSm
import Derived.Test.YtaemmgllhmjceaaDoorRparts
namespace Go.Proofs.YtaemmgllhmjceaaDoor
open Go.RowKit

/-- what is known of the second list while it is being written over: from the k-th part on its arguments can be written -/
def BI (w : World) (B g n cap k : Nat) : Prop := ∃ cur : Array Value, w.heap[g]? = some (.cells cur 30 (0, 0)) ∧ cur.size = cap * 4 ∧ ∀ j, k ≤ j → j < n → ∃ av, cur[j * 4 + 3]? = some av ∧ Wr w B av
theorem Wr.other {w : World} {B g j : Nat} {v x : Value} {cur : Array Value} (h : Wr w B v) (hg : w.heap[g]? = some (.cells cur 30 (0, 0))) : Wr (w.setCell ⟨g, j, none⟩ x) B v := by
  rcases h with h | ⟨g', n', cap', e', hg', h1', h2', cur', hc', hs'⟩
  · exact .inl h
  · refine .inr ⟨g', n', cap', e', hg', h1', h2', cur', (set_other _ _ _ _ (fun e => ?_)).trans hc', hs'⟩
    subst e
    rw [hg] at hc'
    have := Option.some.inj hc'
    injection this with _ h9 _
    exact absurd h9 (by decide)
/-- a part is written over -/
abbrev wipe4 (w : World) (g k : Nat) : World := (((w.setCell ⟨g, k * 4, none⟩ (.int .i64 (-1))).setCell ⟨g, k * 4 + 1, none⟩ (.string ⟨#[]⟩)).setCell ⟨g, k * 4 + 2, none⟩ (.string ⟨#[]⟩)).setCell ⟨g, k * 4 + 3, none⟩ (.slice none 0 0)
theorem BI.step {w : World} {B g n cap k : Nat} (h : BI w B g n cap k) : BI (wipe4 w g k) B g n cap (k + 1) := by
  obtain ⟨cur, hc, hs, hw⟩ := h
  have h1 := set_block hc (k * 4) (.int .i64 (-1))
  have h2 := set_block h1 (k * 4 + 1) (.string ⟨#[]⟩)
  have h3 := set_block h2 (k * 4 + 2) (.string ⟨#[]⟩)
  have h4 := set_block h3 (k * 4 + 3) (.slice none 0 0)
  refine ⟨_, h4, by simp [hs], fun j hj hjn => ?_⟩
  obtain ⟨av, ha, hwr⟩ := hw j (by omega) hjn
  refine ⟨av, ?_, (((hwr.other hc).other h1).other h2).other h3⟩
  rw [Array.getElem?_setIfInBounds_ne (by omega), Array.getElem?_setIfInBounds_ne (by omega), Array.getElem?_setIfInBounds_ne (by omega), Array.getElem?_setIfInBounds_ne (by omega)]
  exact ha
theorem BI.turn {w w' : World} {B g n cap k : Nat} {v : Value} (h : BI w B g n cap k) (hv : Wr w B v) (ht : Turn (fun i => v.ownBlock = some i) w w') (hw : ∀ B' v', Wr w B' v' → Wr w' B' v') : BI w' B g n cap k := by
  obtain ⟨cur, hc, hs, hk⟩ := h
  refine ⟨cur, (ht.block g (lt_of_block hc) (fun e => ?_)).trans hc, hs, fun j hj hjn => ?_⟩
  · rcases hv with ⟨c, rfl⟩ | ⟨g', n', cap', rfl, _, _, _, cur', hc', _⟩
    · cases e
    · obtain rfl : g' = g := by simpa [Value.ownBlock] using e
      rw [hc] at hc'
      have := Option.some.inj hc'
      injection this with _ h9 _
      exact absurd h9 (by decide)
  · obtain ⟨av, ha, hwr⟩ := hk j hj hjn
    exact ⟨av, ha, hw _ _ hwr⟩
theorem BI.cell {w : World} {B g n cap k : Nat} (h : BI w B g n cap k) (hn : n ≤ cap) {j : Nat} (hj : j < n) {r : Nat} (hr : r < 4) : ∃ v, w.cell? ⟨g, j * 4 + r, none⟩ = some v := by
  obtain ⟨cur, hc, hs, _⟩ := h
  exact ⟨cur[j * 4 + r]'(by omega), by rw [Lib.cell_of_heap hc, Array.getElem?_eq_getElem (by omega)]⟩
theorem BI.fz {w : World} {B g n cap k : Nat} (h : BI w B g n cap k) (j : Nat) : w.frozen? ⟨g, j, none⟩ = false := by
  obtain ⟨cur, hc, _⟩ := h
  exact Lib.frozen_of_heap hc j
theorem BI.av {w : World} {B g n cap k : Nat} (h : BI w B g n cap k) (hk : k < n) : ∃ av, w.cell? ⟨g, k * 4 + 3, none⟩ = some av ∧ Wr w B av := by
  obtain ⟨cur, hc, hs, hw⟩ := h
  obtain ⟨av, ha, hwr⟩ := hw k (Nat.le_refl _) hk
  exact ⟨av, by rw [Lib.cell_of_heap hc]; exact ha, hwr⟩
theorem bi_of {w : World} {B g n cap : Nat} {L : List Px} (h : w.ownsRow B 30 4 (.slice (some ⟨g, 0, none⟩) n cap) n (flatP L)) (hn : n = L.length) (ha : ∀ x ∈ L, ArgV w B x) : BI w B g n cap 0 := by
  rcases h.2 with ⟨h1, _⟩ | ⟨g', cap', cur, e, hg, hh, h3, h4, h5, h6⟩
  · cases h1
  · obtain ⟨rfl, rfl⟩ : g = g' ∧ cap = cap' := by simpa using e
    refine ⟨cur, hh, h5, fun j _ hj => ?_⟩
    have hx := (flatP_at L j (L[j]'(by omega)) (List.getElem?_eq_getElem (by omega))).2.2.2
    rw [← h6, List.getElem?_take_of_lt (by omega)] at hx
    exact ⟨_, by simpa using hx, Wr.of_own (ha _ (List.getElem_mem _))⟩
/-- the second list -/
theorem second {w' : World} {B : Nat} {e : Ending} : ∀ {R : Option (List Pt)}, ParseR w' B e R → ∃ vb nb, e = .returned (.tuple #[vb, .int .i64 nb]) ∧ ((∃ a c, vb = .slice a 0 c) ∨ ∃ g n cap, vb = .slice (some ⟨g, 0, none⟩) n cap ∧ B ≤ g ∧ n ≤ cap ∧ cap ≤ maxLen ∧ BI w' B g n cap 0)
  | none, h => ⟨_, 40, h, .inl ⟨_, _, rfl⟩⟩
  | some ps, h => by
    obtain ⟨v, rfl, L, hL, hlist, hargs⟩ := h
    refine ⟨v, 0, rfl, ?_⟩
    by_cases h0 : L.length = 0
    · obtain ⟨a, c, e⟩ := own_len hlist
      rw [h0] at e
      exact .inl ⟨a, c, e⟩
    · obtain ⟨g, cap, rfl, h1, h2, _, h3, _⟩ := own_cells hlist (by omega)
      exact .inr ⟨g, L.length, cap, rfl, h3, h1, h2, bi_of hlist rfl hargs⟩
/-- the number of an error -/
def noOf : Bool → Int
  | true => 0
  | false => 40
theorem first {w' : World} {B : Nat} {e : Ending} : ∀ {R : Option (List Pt)}, ParseR w' B e R → ∃ va, e = .returned (.tuple #[va, .int .i64 (noOf R.isSome)]) ∧ PartsAt w' B va (R.getD [])
  | none, h => ⟨_, h, [], rfl, World.ownsRow_nil _ _ _ _, fun _ hx => by cases hx⟩
  | some ps, h => h
theorem third {w' : World} {B : Nat} {e : Ending} : ∀ {R : Option (List Pt)}, PartsR w' B e R → ∃ vw, e = .returned (.tuple #[vw, .bool R.isSome]) ∧ PartsAt w' B vw (R.getD [])
  | none, h => ⟨_, h, [], rfl, World.ownsRow_nil _ _ _ _, fun _ hx => by cases hx⟩
  | some ps, h => h
theorem prs_len (l : Bs) : ∀ (f k : Nat) (row : Bs) (acc : List Pt) (ps : List Pt), prs l f k row acc = some ps → ps.length ≤ acc.length + 2 * f
  | 0, _, _, _, _, h => by cases h
  | f + 1, k, row, acc, ps, h => by
    have hfl := fl_len row acc
    unfold prs at h
    split at h
    · split at h
      · have := prs_len l f _ _ _ _ h; omega
      · split at h
        · have := prs_len l f _ _ _ _ h; rw [List.length_append] at this; simp at this; omega
        · split at h
          · have := prs_len l f _ _ _ _ h; rw [List.length_append] at this; simp at this; omega
          · cases h
    · obtain rfl := Option.some.inj h
      omega
set_option maxRecDepth 100000 in
set_option maxHeartbeats 8000000 in
theorem lparses_any (s o : ByteArray) (w : World) (hF : FnsAt w 0) : Calls Tryd.prog 3 #[.string s, .string o] w fun e w' => e = .returned (.bool true) ∧ Below w.heap.size w w' := by
  have k1 := alive_any w hF
  by_cases h1 : s.size ≤ 20000
  · have d1 : decide ((20000 : Int) < (s.size : Int)) = false := decide_eq_false (by omega)
    by_cases h2 : o.size ≤ 20000
    · have d2 : decide ((20000 : Int) < (o.size : Int)) = false := decide_eq_false (by omega)
      have kA : ∀ w1, Below w.heap.size w w1 → _ := fun w1 hb => parse_any s (by omega) w1 (hF.below hb)
      have kB : ∀ w1, Below w.heap.size w w1 → _ := fun w1 hb => parse_any o (by omega) w1 (hF.below hb)
      have kR := fun w => rparts_any s (by omega) w
      have kn := num_any
      obtain ⟨R, hR⟩ : ∃ R, R = prs (tl s) (s.size + 1) 0 [] [] := ⟨_, rfl⟩
      have hRl : (R.getD []).length ≤ 100000 := by
        cases hRR : R with
        | none => simp
        | some ps => have := prs_len (tl s) _ _ _ _ _ (hR.symm.trans hRR); simp at this ⊢; omega
      rw [← hR] at kA kR
      generalize prs (tl o) (o.size + 1) 0 [] [] = R' at kB
      clear hR hF
      go_enter Tryd.func3, Tryd.ntmps3
      go_upto_region 6 with (first | (go_at_call 7; refine k1.mono ?_; rintro e w1 ⟨rfl, hb1⟩) | (go_at_call 8; refine (kA _ hb1).mono ?_; rintro e w2 ⟨hr2, hb2⟩; obtain ⟨va, rfl, LA, hLA, hlA, hargA⟩ := first hr2; have hB2 := hb1.trans (hb2.mono hb1.size); clear kA hr2) | (go_at_call 8; refine (kB _ hB2).mono ?_; rintro e w3 ⟨hr3, hb3⟩; obtain ⟨vb, nb, rfl, hvb⟩ := second hr3; clear kB hr3))
      have hlenA : LA.length ≤ 1000000 := by
        have := congrArg List.length hLA
        rw [List.length_map] at this
        omega
      obtain ⟨la, lc, rfl⟩ := own_len hlA
      have HLA := hide' hlA
      have HAA := hide' hargA
      have HLL := hide' hLA
      have hB3 := hB2.trans (hb3.mono hB2.size)
      clear k1 hlA hargA hLA hRl
      cases hok : R.isSome
      all_goals (simp only [noOf]; have HOk := hide' hok; clear hok)
      all_goals rcases hvb with ⟨ba, bc, rfl⟩ | ⟨g, n, cap, rfl, hgB, hncap, hcm, hBI⟩
      · have hlistA := own_below HLA.out hb3
        have hargsA : ∀ x ∈ LA, ArgV w3 w1.heap.size x := fun x hx => own_below (HAA.out x hx) hb3
        have HB := hide' hB3
        go_wp2
        go_loopw [10] (fun i wr => i = .int .i64 0 ∧ wr = w3) (fun _ _ => 0)
        case atStart => exact ⟨rfl, rfl⟩
        case round =>
          obtain ⟨rfl, hwr⟩ := hrel
          obtain rfl := hwr.symm
          clear hwr
          go_wp2_with (first | (go_at_call 10; refine (kR _).mono ?_; rintro e w7 ⟨hr7, hb7⟩; obtain ⟨vw, rfl, L7, hL7, hlist7, hargs7⟩ := third hr7; have hlA7 := own_below hlistA hb7; have haA7 := (fun x hx => own_below (hargsA x hx) hb7 : ∀ x ∈ LA, ArgV w7 w1.heap.size x); have kS := samep_any LA L7 (by rw [HLL.out, hL7]) hlenA _ _ _ _ w7 hlA7 hlist7 haA7 hargs7; rw [HOk.out]; clear hr7 hL7 hlist7 hargs7 hlA7 haA7) | (go_at_call 11; refine (kn _ _).mono ?_; rintro e w8 ⟨rfl, rfl⟩) | (go_at_call 12; refine kS.mono ?_; rintro e w9 ⟨rfl, hb9⟩))
          go_ret
          exact ⟨rfl, (HB.out.trans (hb7.mono HB.out.size)).trans (hb9.mono (HB.out.trans (hb7.mono HB.out.size)).size)⟩
      · unfold maxLen at hcm
        go_wp2
        go_loopw [10] (fun i wr => ∃ k : Nat, k ≤ n ∧ i = .int .i64 k ∧ BI wr w2.heap.size g n cap k ∧ Below w2.heap.size w3 wr) (fun i _ => n - (intOf i).toNat)
        case atStart => exact ⟨0, Nat.zero_le _, rfl, hBI, Below.refl _ _⟩
        case round =>
          obtain ⟨k, hk, rfl, hBk, hBr⟩ := hrel
          clear hBI
          by_cases hlt : k < n
          · obtain ⟨av, c3, hwr⟩ := hBk.av hlt
            have kW := wipe_wr wr w2.heap.size av hwr
            have HBk := hide' hBk
            have HWr := hide' hwr
            clear hBk hwr
            go_wp2_with (go_at_call 9; refine kW.mono ?_; rintro e w5 ⟨rfl, ht5, hb5, hall⟩; have hB5 := HBk.out.turn HWr.out ht5 hall; obtain ⟨x0, y0⟩ := hB5.cell hncap hlt (r := 0) (by omega); obtain ⟨x1, y1⟩ := hB5.cell hncap hlt (r := 1) (by omega); obtain ⟨x2, y2⟩ := hB5.cell hncap hlt (r := 2) (by omega); obtain ⟨x3, y3⟩ := hB5.cell hncap hlt (r := 3) (by omega); rw [Nat.add_zero] at y0; have f0 := hB5.fz (k * 4); have f1 := hB5.fz (k * 4 + 1); have f2 := hB5.fz (k * 4 + 2); have f3 := hB5.fz (k * 4 + 3); have HB5 := hide' hB5; clear hB5)
            have hst := HB5.out.step
            exact ⟨⟨k + 1, by omega, by go_num, hst, ((((hBr.trans hb5).setCell (p := ⟨g, _, none⟩) hgB _).setCell (p := ⟨g, _, none⟩) hgB _).setCell (p := ⟨g, _, none⟩) hgB _).setCell (p := ⟨g, _, none⟩) hgB _⟩, by simp [intOf]; omega⟩
          · have hb23 : Below w2.heap.size w2 wr := hb3.trans hBr
            have hlistA := own_below HLA.out hb23
            have hargsA : ∀ x ∈ LA, ArgV wr w1.heap.size x := fun x hx => own_below (HAA.out x hx) hb23
            have HB := hide' (hB2.trans (hb23.mono hB2.size))
            clear hBk hBr hb23
            go_wp2_with (first | (go_at_call 10; refine (kR _).mono ?_; rintro e w7 ⟨hr7, hb7⟩; obtain ⟨vw, rfl, L7, hL7, hlist7, hargs7⟩ := third hr7; have hlA7 := own_below hlistA hb7; have haA7 := (fun x hx => own_below (hargsA x hx) hb7 : ∀ x ∈ LA, ArgV w7 w1.heap.size x); have kS := samep_any LA L7 (by rw [HLL.out, hL7]) hlenA _ _ _ _ w7 hlA7 hlist7 haA7 hargs7; rw [HOk.out]; clear hr7 hL7 hlist7 hargs7 hlA7 haA7) | (go_at_call 11; refine (kn _ _).mono ?_; rintro e w8 ⟨rfl, rfl⟩) | (go_at_call 12; refine kS.mono ?_; rintro e w9 ⟨rfl, hb9⟩))
            go_ret
            exact ⟨rfl, (HB.out.trans (hb7.mono HB.out.size)).trans (hb9.mono (HB.out.trans (hb7.mono HB.out.size)).size)⟩
      · have hlistA := own_below HLA.out hb3
        have hargsA : ∀ x ∈ LA, ArgV w3 w1.heap.size x := fun x hx => own_below (HAA.out x hx) hb3
        have HB := hide' hB3
        go_wp2
        go_loopw [10] (fun i wr => i = .int .i64 0 ∧ wr = w3) (fun _ _ => 0)
        case atStart => exact ⟨rfl, rfl⟩
        case round =>
          obtain ⟨rfl, hwr⟩ := hrel
          obtain rfl := hwr.symm
          clear hwr
          go_wp2_with (first | (go_at_call 10; refine (kR _).mono ?_; rintro e w7 ⟨hr7, hb7⟩; obtain ⟨vw, rfl, L7, hL7, hlist7, hargs7⟩ := third hr7; have hlA7 := own_below hlistA hb7; have haA7 := (fun x hx => own_below (hargsA x hx) hb7 : ∀ x ∈ LA, ArgV w7 w1.heap.size x); have kS := samep_any LA L7 (by rw [HLL.out, hL7]) hlenA _ _ _ _ w7 hlA7 hlist7 haA7 hargs7; rw [HOk.out]; clear hr7 hL7 hlist7 hargs7 hlA7 haA7) | (go_at_call 11; refine (kn _ _).mono ?_; rintro e w8 ⟨rfl, rfl⟩) | (go_at_call 12; refine kS.mono ?_; rintro e w9 ⟨rfl, hb9⟩))
          go_ret
          exact ⟨rfl, (HB.out.trans (hb7.mono HB.out.size)).trans (hb9.mono (HB.out.trans (hb7.mono HB.out.size)).size)⟩
      · unfold maxLen at hcm
        go_wp2
        go_loopw [10] (fun i wr => ∃ k : Nat, k ≤ n ∧ i = .int .i64 k ∧ BI wr w2.heap.size g n cap k ∧ Below w2.heap.size w3 wr) (fun i _ => n - (intOf i).toNat)
        case atStart => exact ⟨0, Nat.zero_le _, rfl, hBI, Below.refl _ _⟩
        case round =>
          obtain ⟨k, hk, rfl, hBk, hBr⟩ := hrel
          clear hBI
          by_cases hlt : k < n
          · obtain ⟨av, c3, hwr⟩ := hBk.av hlt
            have kW := wipe_wr wr w2.heap.size av hwr
            have HBk := hide' hBk
            have HWr := hide' hwr
            clear hBk hwr
            go_wp2_with (go_at_call 9; refine kW.mono ?_; rintro e w5 ⟨rfl, ht5, hb5, hall⟩; have hB5 := HBk.out.turn HWr.out ht5 hall; obtain ⟨x0, y0⟩ := hB5.cell hncap hlt (r := 0) (by omega); obtain ⟨x1, y1⟩ := hB5.cell hncap hlt (r := 1) (by omega); obtain ⟨x2, y2⟩ := hB5.cell hncap hlt (r := 2) (by omega); obtain ⟨x3, y3⟩ := hB5.cell hncap hlt (r := 3) (by omega); rw [Nat.add_zero] at y0; have f0 := hB5.fz (k * 4); have f1 := hB5.fz (k * 4 + 1); have f2 := hB5.fz (k * 4 + 2); have f3 := hB5.fz (k * 4 + 3); have HB5 := hide' hB5; clear hB5)
            have hst := HB5.out.step
            exact ⟨⟨k + 1, by omega, by go_num, hst, ((((hBr.trans hb5).setCell (p := ⟨g, _, none⟩) hgB _).setCell (p := ⟨g, _, none⟩) hgB _).setCell (p := ⟨g, _, none⟩) hgB _).setCell (p := ⟨g, _, none⟩) hgB _⟩, by simp [intOf]; omega⟩
          · have hb23 : Below w2.heap.size w2 wr := hb3.trans hBr
            have hlistA := own_below HLA.out hb23
            have hargsA : ∀ x ∈ LA, ArgV wr w1.heap.size x := fun x hx => own_below (HAA.out x hx) hb23
            have HB := hide' (hB2.trans (hb23.mono hB2.size))
            clear hBk hBr hb23
            go_wp2_with (first | (go_at_call 10; refine (kR _).mono ?_; rintro e w7 ⟨hr7, hb7⟩; obtain ⟨vw, rfl, L7, hL7, hlist7, hargs7⟩ := third hr7; have hlA7 := own_below hlistA hb7; have haA7 := (fun x hx => own_below (hargsA x hx) hb7 : ∀ x ∈ LA, ArgV w7 w1.heap.size x); have kS := samep_any LA L7 (by rw [HLL.out, hL7]) hlenA _ _ _ _ w7 hlA7 hlist7 haA7 hargs7; rw [HOk.out]; clear hr7 hL7 hlist7 hargs7 hlA7 haA7) | (go_at_call 11; refine (kn _ _).mono ?_; rintro e w8 ⟨rfl, rfl⟩) | (go_at_call 12; refine kS.mono ?_; rintro e w9 ⟨rfl, hb9⟩))
            go_ret
            exact ⟨rfl, (HB.out.trans (hb7.mono HB.out.size)).trans (hb9.mono (HB.out.trans (hb7.mono HB.out.size)).size)⟩
    · have d2 : decide ((20000 : Int) < (o.size : Int)) = true := decide_eq_true (by omega)
      go_enter Tryd.func3, Tryd.ntmps3
      go_wp2_with (go_at_call 7; refine k1.mono ?_; rintro e w1 ⟨rfl, hb1⟩)
      go_ret
      exact ⟨rfl, hb1⟩
  · have d1 : decide ((20000 : Int) < (s.size : Int)) = true := decide_eq_true (by omega)
    go_enter Tryd.func3, Tryd.ntmps3
    go_wp2_with (go_at_call 7; refine k1.mono ?_; rintro e w1 ⟨rfl, hb1⟩)
    go_ret
    exact ⟨rfl, hb1⟩
end Go.Proofs.YtaemmgllhmjceaaDoor
