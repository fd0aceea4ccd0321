/- list, listOrNone, enclosed, and the small compounds. -/
import Derived.Test.YtbljbhlndjhhdaaGreatDoorGa
namespace Go.Proofs.YtbljbhlndjhhdaaGreatDoor
open Go.RowKit

/-- a function's end: its command is stored, and told -/
theorem prr_end {x : Cx} {w W : World} {s : PS} {c : Cd} {v0 v1 v2 v3 v4 v5 v6 : Value} (hG : Gr x w W) (hP : PsAt W x s) (hz : W.heap[w.heap.size]? = some (.cells zeroC 28 (0, 0))) (hc : CdAt W (fun g => w.heap.size + 1 ≤ g) [v0, v1, v2, v3, v4, v5, v6] c) :
    ∀ W2, W2 = set7 W w.heap.size v0 v1 v2 v3 v4 v5 v6 → PrR x w (.ok c s) (CmdV w.heap.size) (.returned (.agg #[v0, v1, v2, v3, v4, v5, v6])) W2 ∧ W2.heap[w.heap.size]? = some (.cells #[v0, v1, v2, v3, v4, v5, v6] 28 (0, 0)) := by
  intro W2 hW2
  have hg := set7_grown W w.heap.size v0 v1 v2 v3 v4 v5 v6
  have hb := set7_blk hz v0 v1 v2 v3 v4 v5 v6
  have hr := ret_cmd hc
  rw [← hW2] at hg hb hr
  exact ⟨⟨hG.grown hg fun g e => by have := Option.some.inj e; omega, hP.grown hg fun b e => by cases e; exact ⟨_, _, hz, by decide, by decide, by decide⟩, _, rfl, _, rfl, hr⟩, hb⟩
theorem prr_endL {x : Cx} {w W : World} {s : PS} {l : List Cd} {kv : Value} {kc : List (List Value)} (hG : Gr x w W) (hP : PsAt W x s) (hz : W.heap[w.heap.size]? = some (.cells zeroC 28 (0, 0))) (hc : KidsAt W (w.heap.size + 1) kv kc l) :
    ∀ W2, W2 = set7 W w.heap.size (.int .i64 5) (.bool false) (.slice none 0 0) (.slice none 0 0) (.slice none 0 0) kv (.slice none 0 0) → PrR x w (.ok l s) (ListV w.heap.size) (.returned (.agg #[.int .i64 5, .bool false, .slice none 0 0, .slice none 0 0, .slice none 0 0, kv, .slice none 0 0])) W2 ∧ W2.heap[w.heap.size]? = some (.cells #[.int .i64 5, .bool false, .slice none 0 0, .slice none 0 0, .slice none 0 0, kv, .slice none 0 0] 28 (0, 0)) := by
  intro W2 hW2
  have hg := set7_grown W w.heap.size (.int .i64 5) (.bool false) (.slice none 0 0) (.slice none 0 0) (.slice none 0 0) kv (.slice none 0 0)
  have hb := set7_blk hz (.int .i64 5) (.bool false) (.slice none 0 0) (.slice none 0 0) (.slice none 0 0) kv (.slice none 0 0)
  rw [← hW2] at hg hb
  have hk : KidsAt W2 (w.heap.size + 1) kv kc l := hc.kept fun g h1 h2 => hg.block g h2 fun e => by have := Option.some.inj e; omega
  refine ⟨⟨hG.grown hg fun g e => by have := Option.some.inj e; omega, hP.grown hg fun b e => by cases e; exact ⟨_, _, hz, by decide, by decide, by decide⟩, _, rfl, kv, kc, rfl, ?_⟩, hb⟩
  exact ⟨hk.row.mono fun g h1 _ => by omega, hk.len, fun i cs c h1 h2 => (hk.kid i cs c h1 h2).mono fun g h3 _ => ⟨by omega, h3.2⟩⟩
/-- the result's variable, laid -/
theorem res_laid {x : Cx} {w : World} {s : PS} (h : PsAt w x s) : ∃ W, W = w.alloc (.cells zeroC 28) ∧ PsAt W x s ∧ Gr x w W ∧ W.heap[w.heap.size]? = some (.cells zeroC 28 (0, 0)) ∧ W.heap.size = w.heap.size + 1 := by
  have hb : Below w.heap.size w (w.alloc (.cells zeroC 28)) := (Below.refl _ _).alloc (Nat.le_refl _) _
  exact ⟨_, rfl, h.below hb, Gr.of_below hb, heap_alloc_new w _, by simp⟩
/-- a block that is not the parser's stays -/
theorem Gr.blk {x : Cx} {w w' : World} {b : Nat} {o : Obj} (h : Gr x w w') (hA : x.A ≠ b) (hb : w.heap[b]? = some o) : w'.heap[b]? = some o := by
  have hl : b < w.heap.size := by
    rcases Nat.lt_or_ge b w.heap.size with h1 | h1
    · exact h1
    · rw [Array.getElem?_eq_none h1] at hb; cases hb
  exact (h.block b hl fun e => hA (Option.some.inj e).symm).trans hb
theorem CmdV.form {B : Nat} {w : World} {c : Cd} {v : Value} (h : CmdV B w c v) : ∃ (k : Nat) (nt : Bool) (a1 a2 a3 a4 a5 : Option Addr) (n1 n2 n3 n4 n5 c1 c2 c3 c4 c5 : Nat), v = .agg #[.int .i64 k, .bool nt, .slice a1 n1 c1, .slice a2 n2 c2, .slice a3 n3 c3, .slice a4 n4 c4, .slice a5 n5 c5] ∧ CdAt w (fun g => B ≤ g) [.int .i64 k, .bool nt, .slice a1 n1 c1, .slice a2 n2 c2, .slice a3 n3 c3, .slice a4 n4 c4, .slice a5 n5 c5] c := by
  obtain ⟨cs, rfl, hc⟩ := h
  obtain ⟨k, nt, a1, a2, a3, a4, a5, n1, n2, n3, n4, n5, c1, c2, c3, c4, c5, rfl⟩ := hc.form
  exact ⟨k, nt, a1, a2, a3, a4, a5, n1, n2, n3, n4, n5, c1, c2, c3, c4, c5, rfl, hc⟩
set_option maxHeartbeats 2000000 in
theorem list_step {x : Cx} {n : Nat} (hA : ∀ w s, PsAt w x s → andorsP n s ≠ .out → Calls Tryz.prog 63 #[ptr x.A] w (PrR x w (andorsP n s) (ListV w.heap.size))) (w : World) (s : PS) (h : PsAt w x s) (hne : listP (n + 1) s ≠ .out) : Calls Tryz.prog 53 #[ptr x.A] w (PrR x w (listP (n + 1) s) (CmdV w.heap.size)) := by
  have hAl := h.lt
  obtain ⟨W, hW, h0, g0, z0, s0⟩ := res_laid h
  have HW := hide' hW
  have q := skip_any h0
  have HH := hide' (And.intro g0 (And.intro z0 s0))
  clear hW h0 g0 z0 s0 h
  obtain ⟨R, hR⟩ : ∃ R, listP (n + 1) s = R := ⟨_, rfl⟩
  rw [hR] at hne ⊢
  rw [listP] at hR
  have HR := hide' (And.intro hR hne)
  clear hR hne
  go_enter Tryz.func53, Tryz.ntmps53
  go_wp2_with fail
  rw [← HW.out]
  refine q.mono ?_
  rintro e w1 ⟨rfl, h1, g1⟩
  clear q
  obtain ⟨g0, z0, s0⟩ := HH.out
  have z1 := g1.blk (by omega) z0
  have q := hA w1 s.sk h1 (fun e => HR.out.2 (by rw [← HR.out.1, e]; rfl))
  have hs1 := g1.size
  have HK := hide' (And.intro (g0.trans g1) z1)
  clear h1 g1 g0 z0 z1 HH
  dsimp only
  go_wp2_with fail
  refine q.mono ?_
  rintro e w2 hr
  clear q
  cases hp : andorsP n s.sk with
  | out => exact absurd (by rw [← HR.out.1, hp]; rfl) HR.out.2
  | bad =>
    rw [hp] at hr
    obtain rfl : R = .bad := by rw [← HR.out.1, hp]; rfl
    obtain ⟨g2, b, p, rfl, hb⟩ := hr
    exact ⟨rfl, HK.out.1.trans g2, b, p, rfl, hb⟩
  | ok l s2 =>
    rw [hp] at hr
    obtain ⟨g2, h2, v, rfl, hv⟩ := hr
    obtain rfl : R = .ok (aloneP l) s2 := by rw [← HR.out.1, hp]; rfl
    obtain ⟨gg, z1⟩ := HK.out
    have z2 := g2.blk (by omega) z1
    have hs2 := g2.size
    have q := alone_any _ l w2 v hv
    have HJ := hide' (And.intro (gg.trans g2) (And.intro h2 z2))
    obtain ⟨kv, kc, rfl, hK⟩ := hv
    clear g2 h2 gg z1 z2 hK HK hp
    dsimp only
    go_wp2_with fail
    refine q.mono ?_
    rintro e w3 ⟨hb3, v3, rfl, hv3⟩
    clear q
    obtain ⟨gg, h2, z2⟩ := HJ.out
    obtain ⟨k, nt, a1, a2, a3, a4, a5, n1, n2, n3, n4, n5, c1, c2, c3, c4, c5, rfl, hc⟩ := hv3.form
    have z3 := (hb3.block _ (lt_of_block z2)).trans z2
    have HE := hide' (prr_end (gg.trans (Gr.of_below hb3)) (h2.below hb3) z3 (hc.mono fun g h1 _ => by omega))
    obtain ⟨r0, r1, r2, r3, r4, r5, r6⟩ := cells7 z3
    obtain ⟨f0, f1, f2, f3, f4, f5, f6⟩ := fz7 z3
    clear gg h2 z2 z3 hc hb3 HJ hv3
    dsimp only
    go_wp2
    obtain ⟨hV, hbk⟩ := HE.out _ rfl
    obtain ⟨d0, d1, d2, d3, d4, d5, d6⟩ := cells7 hbk
    refine bodyPost_ret (v := .agg #[.int .i64 k, .bool nt, .slice a1 n1 c1, .slice a2 n2 c2, .slice a3 n3 c3, .slice a4 n4 c4, .slice a5 n5 c5]) (by simp [results, Tryz.results53, go_sem, d0, d1, d2, d3, d4, d5, d6]) rfl ?_
    exact hV
end Go.Proofs.YtbljbhlndjhhdaaGreatDoor
