/- The contract of gram.Parse, where no compound but ( and { stands. -/
import Derived.Test.YtcemlhfodpelaaaGreatDoorZc
import Derived.Test.YtcemlhfodpelaaaGreatDoorLex
import Derived.Test.YtcemlhfodpelaaaGreatDoorGlv
namespace Go.Proofs.YtcemlhfodpelaaaGreatDoor
open Go.RowKit Go.Shelf
attribute [local go_sem] run_store_nilFunc run_store_func

def GloB (w : World) : Prop := ∃ cs m, w.heap[1]? = some (.cells cs 3 (0, 0)) ∧ cs[0]? = some (.int .i64 m)
theorem GloB.below {w w' : World} (h : GloB w) (hb : Below w.heap.size w w') : GloB w' := by
  obtain ⟨cs, m, h1, h2⟩ := h
  exact ⟨cs, m, (hb.block 1 (lt_of_block h1)).trans h1, h2⟩
theorem GloB.glob {w : World} (h : GloB w) : Glob w := by
  obtain ⟨cs, m, h1, h2⟩ := h
  exact ⟨lt_of_block h1, m, by rw [Lib.cell_of_heap h1]; exact h2⟩
theorem EtW.below {w w' : World} (h : EtW w) (hb : Below w.heap.size w w') : EtW w' := (hb.cell (p := ⟨0, 0, none⟩) (lt_of_cell? h)).trans h
/-- what Parse tells -/
def ParseR (w : World) (R : GR) (e : Ending) (w' : World) : Prop := Below w.heap.size w w' ∧ match R with
  | .ok l => ∃ v, e = .returned (.tuple #[v, .int .i64 0]) ∧ ListV w.heap.size w' l v
  | .err n => e = .returned (.tuple #[.agg zeroC, .int .i64 n])
  | .none => True
theorem pvars_laid (w : World) : ∃ W, W = (w.alloc (.cells zeroC 28)).alloc (.cells #[.int .i64 0] 29) ∧ Below w.heap.size w W ∧ W.heap.size = w.heap.size + 2 ∧ W.heap[w.heap.size]? = some (.cells zeroC 28 (0, 0)) ∧ W.heap[w.heap.size + 1]? = some (.cells #[.int .i64 0] 29 (0, 0)) := by
  refine ⟨_, rfl, ((Below.refl _ _).alloc (Nat.le_refl _) _).alloc (by simp) _, by simp, (Lib.alloc_old _ _ _ (by simp)).trans (heap_alloc_new w _), ?_⟩
  have := heap_alloc_new (w.alloc (.cells zeroC 28)) (.cells #[.int .i64 0] 29)
  simpa using this
set_option maxRecDepth 100000 in
set_option maxHeartbeats 4000000 in
theorem parse_toks (s : ByteArray) (w : World) (tk : List Tok) (n : Nat) (hG : GloB w) (hE : EtW w) (hL : lexF (tl s) = .toks tk) (hgd : Good tk) (hnl : n ≤ 1000000) (hne : scriptP n tk ≠ .none)
    (hxl : ∀ t ∈ tk, t.2.length ≤ 100000) (hx : ∀ t ∈ tk, formOf t.2 = none ∨ formOf t.2 = some .sub ∨ formOf t.2 = some .grp) : Calls Tryz.prog 8 #[.string s] w (ParseR w (scriptP n tk)) := by
  have hmf : ∀ (fn : Fn) (first cap : Array Value) (w : World), (Instr.makeFunc fn first cap).run Tryz.prog w = .ok (.func fn first cap) w := fun _ _ _ _ => rfl
  obtain ⟨W, hW, hb0, hz, hr1, hr2⟩ := pvars_laid w
  have q := lex_any s W (hG.below hb0).glob (by rw [hL]; simp)
  rw [hL] at q
  have HW := hide' hW
  have H0 := hide' (And.intro hb0 (And.intro hr1 (And.intro hr2 (And.intro hz (And.intro (hG.below hb0) (hE.below hb0))))))
  clear hW hb0 hr1 hr2 hG hL hz hE
  go_enter_defers Tryz.func8, Tryz.ntmps8
  go_wp2_with fail
  rw [← HW.out]
  refine q.mono ?_
  rintro e w1 ⟨hb1, tv, rfl, hown, hl5⟩
  clear q
  obtain ⟨hb0, hr1, hr2, hz, hGW, hEW⟩ := H0.out
  have hs1 := hb1.size
  have z1 := (hb1.block _ (lt_of_block hr1)).trans hr1
  have y1 := (hb1.block _ (lt_of_block hr2)).trans hr2
  have hB1 : Below w.heap.size w w1 := hb0.trans (hb1.mono (by omega))
  have hG1 := hGW.below hb1
  have hE1 := hEW.below hb1
  obtain ⟨g, cap, rfl⟩ : ∃ g cap, tv = .slice (some ⟨g, 0, none⟩) tk.length cap := by
    rcases hown.2 with ⟨_, h0⟩ | ⟨g, cap, cur, e, _⟩
    · exact absurd (List.length_eq_zero_iff.1 h0) hgd.ne
    · exact ⟨g, cap, e⟩
  have hgl : W.heap.size ≤ g := own_low hown g rfl
  -- the number, laid
  obtain ⟨w2, hw2⟩ : ∃ w2, w2 = w1.setCell ⟨w.heap.size + 1, 0, none⟩ (.int .i64 0) := ⟨_, rfl⟩
  have hg2 : w1.grownBy w2 (some (w.heap.size + 1)) := by rw [hw2]; exact grown_set ⟨rfl, rfl, rfl, Nat.le_refl _, fun _ _ _ => rfl⟩ 0 _
  have y2 : w2.heap[w.heap.size + 1]? = some (.cells #[.int .i64 0] 29 (0, 0)) := by rw [hw2]; exact set_block y1 0 _
  have z2 : w2.heap[w.heap.size]? = some (.cells zeroC 28 (0, 0)) := (hg2.block _ (lt_of_block z1) (by simp)).trans z1
  have hs2 := hg2.size
  have hB2 : Below w.heap.size w w2 := hB1.trans ⟨hg2.os, hg2.tape, hg2.output, hg2.size, fun k hk => hg2.block k (by omega) (by simp; omega)⟩
  have hown2 : w2.ownsRow 0 60 2 (.slice (some ⟨g, 0, none⟩) tk.length cap) tk.length (flat tk) := own_kept (own_mono hown (Nat.zero_le _)) fun g' e => by
    have e : g = g' := Option.some.inj e
    exact hg2.block g' (own_lt hown g' (by rw [e]; rfl)) (fun e2 => by have := Option.some.inj e2; omega)
  have hG2 : GloB w2 := by
    obtain ⟨cs, m, h1, h2⟩ := hG1
    have h1' := hGW
    obtain ⟨cs', m', h3, _⟩ := h1'
    exact ⟨cs, m, (hg2.block 1 (lt_of_block h1) (fun e => by
      have e : 1 = w.heap.size + 1 := Option.some.inj e
      rw [e, hr2] at h3
      simp at h3)).trans h1, h2⟩
  have hE2 : EtW w2 := by
    have hl0 : (0 : Nat) < w1.heap.size := lt_of_cell? hE1
    exact (World.cell?_of_block (a := ⟨0, 0, none⟩) (hg2.block 0 hl0 (by simp))).trans hE1
  have q := newParser_any w2 g cap tk hown2 hgd hl5 hG2
  have c1 := cell_one y1
  have e1 := Lib.frozen_of_heap y1 0
  have c2 := cell_one y2
  have HW2 := hide' hw2
  have HK := hide' (And.intro y2 (And.intro z2 (And.intro hB2 hE2)))
  clear hw2 hb0 hr1 hr2 hb1 hB1 z1 y1 y2 z2 hB2 H0 hown hown2 hG1 hE1 hG2 hE2 hGW hEW hg2 hgl hl5
  dsimp only
  go_upto_region 2 with fail
  rw [← HW2.out]
  clear c1 e1
  go_wp2_with fail
  refine q.mono ?_
  rintro e w3 ⟨rfl, hb3, hP3⟩
  clear q c2
  obtain ⟨y2, z2, hB2, hE2⟩ := HK.out
  have hs3 := hb3.size
  have y3 := (hb3.block _ (lt_of_block y2)).trans y2
  have z3 := (hb3.block _ (lt_of_block z2)).trans z2
  have hB3 : Below w.heap.size w w3 := hB2.trans (hb3.mono (by omega))
  have hE3 := hE2.below hb3
  have q := script_any (fun w' s' h' hn' => (lv ⟨w2.heap.size, w2.heap.size + 1, g, cap, tk⟩ hxl hx n hnl n (Nat.le_refl _)).lon w' s' h' hn') w3 tk hP3 hne
  obtain ⟨R, hR⟩ : ∃ R, scriptP n tk = R := ⟨_, rfl⟩
  rw [hR] at q hne
  have HRR := hide' hR
  have HK3 := hide' (And.intro y3 (And.intro z3 (And.intro hB3 hE3)))
  clear y2 z2 hB2 hE2 y3 z3 hB3 hE3 hb3 hP3 hR hxl hx hgd HK
  dsimp only
  go_wp2_with fail
  refine q.mono ?_
  rintro e w4 hr
  clear q
  obtain ⟨y3, z3, hB3, hE3⟩ := HK3.out
  rw [HRR.out]
  cases R with
  | none => exact absurd rfl hne
  | err k =>
    obtain ⟨g4, b, p, rfl, hb⟩ := hr
    have hs4 : w3.heap.size ≤ w4.heap.size := g4.size
    have hA4 : ∀ k', k' < w3.heap.size → k' < w2.heap.size → w4.heap[k']? = w3.heap[k']? := fun k' h1 h2 => g4.block k' h1 fun e => by have e : k' = w2.heap.size := Option.some.inj e; omega
    have y4 := (hA4 _ (lt_of_block y3) (by omega)).trans y3
    have z4 := (hA4 _ (lt_of_block z3) (by omega)).trans z3
    have hE4 : EtW w4 := (World.cell?_of_block (a := ⟨0, 0, none⟩) (hA4 0 (lt_of_cell? hE3) (by omega))).trans hE3
    have hB4 : Below w.heap.size w w4 := hB3.trans ⟨g4.os, g4.tape, g4.output, g4.size, fun k' hk' => hA4 k' (by have := hB3.size; omega) (by omega)⟩
    refine leaves_cons (f := 16) (args := #[.pointer (some ⟨w.heap.size, 0, none⟩), .pointer (some ⟨w.heap.size + 1, 0, none⟩)]) (by simp) (by simp [go_sem]) ?_
    refine (pcatch_panicking w.heap.size (w.heap.size + 1) b _ _ _ _ _ _ _ _ p k [] w4 hE4 z4 y4 hb).mono ?_
    rintro e u' w5 ⟨rfl, rfl, hsz, hos, htp, hou, hk, z5, y5⟩
    obtain ⟨d0, d1, d2, d3, d4, d5, d6⟩ := cells7 z5
    have d7 := cell_one y5
    refine ⟨.tuple #[.agg zeroC, .int .i64 k], by simp [results, Tryz.results8, go_sem, d0, d1, d2, d3, d4, d5, d6, d7], ?_, rfl⟩
    exact hB4.trans ⟨hos, htp, hou, hsz, fun k' hk' => hk k' (by have := hB4.size; omega) (by omega) (by omega)⟩
  | ok l =>
    obtain ⟨g4, v, rfl, kv, kc, rfl, hK⟩ := hr
    have hs4 : w3.heap.size ≤ w4.heap.size := g4.size
    have hA4 : ∀ k', k' < w3.heap.size → k' < w2.heap.size → w4.heap[k']? = w3.heap[k']? := fun k' h1 h2 => g4.block k' h1 fun e => by have e : k' = w2.heap.size := Option.some.inj e; omega
    have y4 := (hA4 _ (lt_of_block y3) (by omega)).trans y3
    have z4 := (hA4 _ (lt_of_block z3) (by omega)).trans z3
    have hB4 : Below w.heap.size w w4 := hB3.trans ⟨g4.os, g4.tape, g4.output, g4.size, fun k' hk' => hA4 k' (by have := hB3.size; omega) (by omega)⟩
    obtain ⟨ka, kcap, rfl⟩ := hK.row.form
    obtain ⟨kn, hkn⟩ : ∃ kn, kn = l.length := ⟨_, rfl⟩
    rw [← hkn] at hK ⊢
    have hg5 := set7_grown w4 w.heap.size (.int .i64 5) (.bool false) (.slice none 0 0) (.slice none 0 0) (.slice none 0 0) (.slice ka kn kcap) (.slice none 0 0)
    have z5 := set7_blk z4 (.int .i64 5) (.bool false) (.slice none 0 0) (.slice none 0 0) (.slice none 0 0) (.slice ka kn kcap) (.slice none 0 0)
    obtain ⟨w5, hw5⟩ : ∃ w5, w5 = ((((((w4.setCell ⟨w.heap.size, 0, none⟩ (.int .i64 5)).setCell ⟨w.heap.size, 1, none⟩ (.bool false)).setCell ⟨w.heap.size, 2, none⟩ (.slice none 0 0)).setCell ⟨w.heap.size, 3, none⟩ (.slice none 0 0)).setCell ⟨w.heap.size, 4, none⟩ (.slice none 0 0)).setCell ⟨w.heap.size, 5, none⟩ (.slice ka kn kcap)).setCell ⟨w.heap.size, 6, none⟩ (.slice none 0 0) := ⟨_, rfl⟩
    have hg5 : w4.grownBy w5 (some w.heap.size) := by rw [hw5]; exact hg5
    have z5 : w5.heap[w.heap.size]? = some (.cells #[.int .i64 5, .bool false, .slice none 0 0, .slice none 0 0, .slice none 0 0, .slice ka kn kcap, .slice none 0 0] 28 (0, 0)) := by rw [hw5]; exact z5
    have y5 := (hg5.block _ (lt_of_block y4) (fun e => by have := Option.some.inj e; omega)).trans y4
    have k7' := cell_one y5
    have e7' := Lib.frozen_of_heap y5 0
    have k7 := k7'
    have e7 := e7'
    rw [hw5] at k7 e7
    obtain ⟨X, hX⟩ : ∃ X, X = w5.setCell ⟨w.heap.size + 1, 0, none⟩ (.int .i64 0) := ⟨_, rfl⟩
    have y6 : X.heap[w.heap.size + 1]? = some (.cells #[.int .i64 0] 29 (0, 0)) := by rw [hX]; exact set_block y5 0 _
    have z6 : X.heap[w.heap.size]? = some (.cells #[.int .i64 5, .bool false, .slice none 0 0, .slice none 0 0, .slice none 0 0, .slice ka kn kcap, .slice none 0 0] 28 (0, 0)) := by rw [hX]; exact (set_oth (by omega)).trans z5
    have gX : w5.grownBy X (some (w.heap.size + 1)) := by rw [hX]; exact grown_set ⟨rfl, rfl, rfl, Nat.le_refl _, fun _ _ _ => rfl⟩ 0 _
    have hk6 : ∀ k', k' < w4.heap.size → k' ≠ w.heap.size → k' ≠ w.heap.size + 1 → X.heap[k']? = w4.heap[k']? := fun k' h1 h2 h3 => (gX.block k' (Nat.lt_of_lt_of_le h1 hg5.size) (fun e => h3 (Option.some.inj e))).trans (hg5.block k' h1 fun e => h2 (Option.some.inj e))
    have hB6 : Below w.heap.size w X := hB4.trans ⟨gX.os.trans hg5.os, gX.tape.trans hg5.tape, gX.output.trans hg5.output, Nat.le_trans hg5.size gX.size, fun k' hk' => hk6 k' (by have := hB4.size; omega) (by omega) (by omega)⟩
    have hK6 : KidsAt X w.heap.size (.slice ka kn kcap) kc l := (hK.kept fun g' hg' hl' => hk6 g' hl' (by omega) (by omega)).mono fun g' hg' _ => by omega
    obtain ⟨r0, r1, r2, r3, r4, r5, r6⟩ := cells7 z4
    obtain ⟨f0, f1, f2, f3, f4, f5, f6⟩ := fz7 z4
    have HX := hide' (hX.trans (congrArg (fun u : World => u.setCell ⟨w.heap.size + 1, 0, none⟩ (.int .i64 0)) hw5))
    have HE := hide' (And.intro y6 (And.intro z6 (And.intro hB6 hK6)))
    clear hX y6 z6 hk6 hB6 hK6 hg5 z5 y5 hB4 hK hA4 g4 y3 z3 hB3 hE3 HK3 hkn z4 y4 gX hw5 k7' e7'
    dsimp only
    go_wp2_with fail
    rw [← HX.out]
    refine leaves_cons (f := 16) (args := #[.pointer (some ⟨w.heap.size, 0, none⟩), .pointer (some ⟨w.heap.size + 1, 0, none⟩)]) (by simp) (by simp [go_sem]) ?_
    refine (pcatch_idle ⟨w.heap.size, 0, none⟩ ⟨w.heap.size + 1, 0, none⟩ _).mono ?_
    rintro e u' w'' ⟨rfl, rfl, rfl⟩
    obtain ⟨y6, z6, hB6, hK6⟩ := HE.out
    obtain ⟨d0, d1, d2, d3, d4, d5, d6⟩ := cells7 z6
    have d7 := cell_one y6
    refine ⟨.tuple #[.agg #[.int .i64 5, .bool false, .slice none 0 0, .slice none 0 0, .slice none 0 0, .slice ka kn kcap, .slice none 0 0], .int .i64 0], by simp [results, Tryz.results8, go_sem, d0, d1, d2, d3, d4, d5, d6, d7], ?_⟩
    rw [HRR.out]
    exact ⟨hB6, _, rfl, _, kc, rfl, hK6⟩
end Go.Proofs.YtcemlhfodpelaaaGreatDoor
