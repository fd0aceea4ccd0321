/- alive. -/
import Derived.Test.YtcemlhfodpelaaaGreatDoorGpa
import Derived.Test.YtcemlhfodpelaaaGreatDoorGde
namespace Go.Proofs.YtcemlhfodpelaaaGreatDoor
open Go.RowKit Go.Shelf

theorem num_any (n : Int) (w : World) : Calls Tryz.prog 11 #[.int .i64 n] w fun e w' => e = .returned (.int .i64 n) ∧ w' = w := by
  go_enter Tryz.func11, Tryz.ntmps11
  go_wp2
  go_ret
  exact ⟨rfl, rfl⟩
theorem parse_all {s : Bs} {tk : List Tok} {k : Nat} (h : AllP s tk k) (w : World) (hG : GloB w) (hE : EtW w) : Calls Tryz.prog 8 #[.string (mk s)] w (ParseR w (scriptP 1000 tk)) := by
  refine parse_toks (mk s) w tk 1000 hG hE (by rw [tl_mk]; exact h.lex) h.good (by omega) ?_ h.len h.form
  rcases h.sc with ⟨_, l, e⟩ | ⟨_, e⟩ <;> rw [e] <;> simp
theorem cd_rows {w : World} {S : Nat → Prop} {k k' : Nat} {nt nt' : Bool} {v2 v3 v4 v5 v6 : Value} {ag ws : List Bs} {rs : List (Bs × Bs)} {ks : List Cd} {ar : List (List Bs × Cd)} (h : CdAt w S [.int .i64 k, .bool nt, v2, v3, v4, v5, v6] (.mk k' nt' ag ws rs ks ar)) : StrsS w S v2 ag ∧ StrsS w S v3 ws := by
  generalize hl : [Value.int .i64 k, .bool nt, v2, v3, v4, v5, v6] = l at h
  cases h with
  | intro _ _ _ _ _ _ _ _ _ _ _ _ kc ac h1 h2 h3 h4 h5 h6 h7 h8 h9 h10 =>
    injection hl with _ hl
    injection hl with _ hl
    injection hl with e2 hl
    injection hl with e3 hl
    rw [e2, e3]
    exact ⟨h1, h2⟩
/-- the first text of a row -/
theorem row_first {w : World} {S : Nat → Prop} {v : Value} {t : Bs} (h : StrsS w S v [t]) : ∃ g cap, v = .slice (some ⟨g, 0, none⟩) 1 cap ∧ g < w.heap.size ∧ w.cell? ⟨g, 0, none⟩ = some (.string (mk t)) := by
  rcases h.2 with ⟨_, e⟩ | ⟨g, cap, cur, rfl, _, hg, _, _, _, ht, _⟩
  · cases e
  · refine ⟨g, cap, rfl, lt_of_block hg, ?_⟩
    rw [Lib.cell_of_heap hg]
    have h2 : (cur.toList.take 1)[0]? = some (.string (mk t)) := by
      have e : cur.toList.take 1 = _ := ht
      rw [e]
      rfl
    rw [List.getElem?_take_of_lt (by omega)] at h2
    simpa using h2
set_option maxRecDepth 100000 in
set_option maxHeartbeats 2000000 in
theorem alive_any (w : World) (hG : GloB w) (hE : EtW w) : Calls Tryz.prog 7 #[] w fun e w' => e = .returned (.bool true) ∧ Below w.heap.size w w' := by
  have q1 := parse_all al1 w hG hE
  have q2 := fun w hG hE => parse_all al2 w hG hE
  rw [al1_sc] at q1
  have e2 : scriptP 1000 al2T = .err 31 := by
    rcases al2.sc with ⟨h, _⟩ | ⟨_, h⟩
    · cases h
    · exact h
  rw [e2] at q2
  have qn := fun n w => num_any n w
  have HG := hide' (And.intro hG hE)
  clear hG hE e2
  go_enter Tryz.func7, Tryz.ntmps7
  go_wp2_with fail
  refine q1.mono ?_
  rintro e w1 ⟨hb1, v, rfl, kv, kc, rfl, hK⟩
  clear q1
  obtain ⟨g, cap, k, nt, a1, a2, a3, a4, a5, n1, n2, n3, n4, n5, c1, c2, c3, c4, c5, rfl, hgl, hc, d0, d1, d2, d3, d4, d5, d6⟩ := kid_one hK
  obtain ⟨hA, hWs⟩ := cd_rows hc
  obtain ⟨ga, ca, hea, hgal, ka⟩ := row_first hA
  cases hea
  obtain ⟨wa, wc, hew⟩ := hWs.form
  cases hew
  obtain ⟨w2, hw2⟩ : ∃ w2, w2 = w1.alloc (.cells #[.int .i64 5, .bool false, .slice none 0 0, .slice none 0 0, .slice none 0 0, .slice (some ⟨g, 0, none⟩) 1 cap, .slice none 0 0] 28) := ⟨_, rfl⟩
  have hb2 : Below w1.heap.size w1 w2 := by rw [hw2]; exact (Below.refl _ _).alloc (Nat.le_refl _) _
  have zb : w2.heap[w1.heap.size]? = some (.cells #[.int .i64 5, .bool false, .slice none 0 0, .slice none 0 0, .slice none 0 0, .slice (some ⟨g, 0, none⟩) 1 cap, .slice none 0 0] 28 (0, 0)) := by rw [hw2]; exact heap_alloc_new w1 _
  have q := q2 w2 ((HG.out.1.below hb1).below hb2) ((HG.out.2.below hb1).below hb2)
  have hs2 := hb2.size
  have HW2 := hide' hw2
  have HK := hide' (And.intro hb1 (And.intro hb2 (And.intro zb (And.intro d2 (And.intro d3 ka)))))
  clear hw2 hb1 hb2 zb d0 d1 d2 d3 d4 d5 d6 ka hc hA hWs hK q2
  dsimp only
  go_wp2_with fail
  rw [← HW2.out]
  refine q.mono ?_
  rintro e w3 ⟨hb3, rfl⟩
  clear q
  obtain ⟨hb1, hb2, zb, d2, d3, ka⟩ := HK.out
  have hB13 : Below w1.heap.size w1 w3 := hb2.trans (hb3.mono (by omega))
  have z3 := (hb3.block _ (lt_of_block zb)).trans zb
  obtain ⟨w4, hw4⟩ : ∃ w4, w4 = w3.alloc (.cells zeroC 28) := ⟨_, rfl⟩
  have hb4 : Below w3.heap.size w3 w4 := by rw [hw4]; exact (Below.refl _ _).alloc (Nat.le_refl _) _
  have z4 := (hb4.block _ (lt_of_block z3)).trans z3
  have hs13 := hB13.size
  have hs3 := hb3.size
  have hB14 : Below w1.heap.size w1 w4 := hB13.trans (hb4.mono (by omega))
  have o0 := (cells7 z4).1
  have o5 := (cells7 z4).2.2.2.2.2.1
  have x2 := (hB14.cell (p := ⟨g, 2, none⟩) hgl).trans d2
  have x3 := (hB14.cell (p := ⟨g, 3, none⟩) hgl).trans d3
  have xa := (hB14.cell (p := ⟨ga, 0, none⟩) hgal).trans ka
  have HB := hide' (hb1.trans (hB14.mono hb1.size))
  have HW4 := hide' hw4
  clear hw4 hb1 hb2 hb3 hb4 zb z3 z4 d2 d3 ka hB13 hB14 HK
  dsimp only
  go_upto_region 3 with fail
  rw [← HW4.out]
  go_wp2_with (go_at_call 11; refine (qn _ _).mono ?_; rintro e w' ⟨rfl, rfl⟩)
  go_ret
  exact ⟨rfl, HB.out⟩
end Go.Proofs.YtcemlhfodpelaaaGreatDoor
