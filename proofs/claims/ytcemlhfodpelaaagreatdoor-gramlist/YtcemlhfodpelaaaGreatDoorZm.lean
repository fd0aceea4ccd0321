/- list, listOrNone, enclosed, and the small compounds. listOrNone, enclosed, and the small compounds. -/
import Derived.Test.YtcemlhfodpelaaaGreatDoorGa
namespace Go.Proofs.YtcemlhfodpelaaaGreatDoor
open Go.RowKit

/-- a function's end: its command is stored, and told -/
theorem prr_end {x : Cx} {w W : World} {s : PS} {c : Cd} {v0 v1 v2 v3 v4 v5 v6 : Value} (hG : Gr x w W) (hP : PsAt W x s) (hz : W.heap[w.heap.size]? = some (.cells zeroC 28 (0, 0))) (hc : CdAt W (fun g => w.heap.size + 1 ≤ g) [v0, v1, v2, v3, v4, v5, v6] c) :
    ∀ W2, W2 = set7 W w.heap.size v0 v1 v2 v3 v4 v5 v6 → PrR x w (.ok c s) (CmdV w.heap.size) (.returned (.agg #[v0, v1, v2, v3, v4, v5, v6])) W2 ∧ W2.heap[w.heap.size]? = some (.cells #[v0, v1, v2, v3, v4, v5, v6] 28 (0, 0)) := by
  intro W2 hW2
  have hg := set7_grown W w.heap.size v0 v1 v2 v3 v4 v5 v6
  have hb := set7_blk hz v0 v1 v2 v3 v4 v5 v6
  have hr := ret_cmd hc
  rw [← hW2] at hg hb hr
  exact ⟨⟨hG.grown hg fun g e => by have := Option.some.inj e; omega, hP.grown hg fun b e => by cases e; exact ⟨_, _, hz, by decide, by decide, by decide⟩, _, rfl, _, rfl, hr⟩, hb⟩
theorem prr_endL {x : Cx} {w W : World} {s : PS} {l : List Cd} {kv : Value} {kc : List (List Value)} (hG : Gr x w W) (hP : PsAt W x s) (hz : W.heap[w.heap.size]? = some (.cells zeroC 28 (0, 0))) (hc : KidsAt W (w.heap.size + 1) kv kc l) :
    ∀ W2, W2 = set7 W w.heap.size (.int .i64 5) (.bool false) (.slice none 0 0) (.slice none 0 0) (.slice none 0 0) kv (.slice none 0 0) → PrR x w (.ok l s) (ListV w.heap.size) (.returned (.agg #[.int .i64 5, .bool false, .slice none 0 0, .slice none 0 0, .slice none 0 0, kv, .slice none 0 0])) W2 ∧ W2.heap[w.heap.size]? = some (.cells #[.int .i64 5, .bool false, .slice none 0 0, .slice none 0 0, .slice none 0 0, kv, .slice none 0 0] 28 (0, 0)) := by
  intro W2 hW2
  have hg := set7_grown W w.heap.size (.int .i64 5) (.bool false) (.slice none 0 0) (.slice none 0 0) (.slice none 0 0) kv (.slice none 0 0)
  have hb := set7_blk hz (.int .i64 5) (.bool false) (.slice none 0 0) (.slice none 0 0) (.slice none 0 0) kv (.slice none 0 0)
  rw [← hW2] at hg hb
  have hk : KidsAt W2 (w.heap.size + 1) kv kc l := hc.kept fun g h1 h2 => hg.block g h2 fun e => by have := Option.some.inj e; omega
  refine ⟨⟨hG.grown hg fun g e => by have := Option.some.inj e; omega, hP.grown hg fun b e => by cases e; exact ⟨_, _, hz, by decide, by decide, by decide⟩, _, rfl, kv, kc, rfl, ?_⟩, hb⟩
  exact ⟨hk.row.mono fun g h1 _ => by omega, hk.len, fun i cs c h1 h2 => (hk.kid i cs c h1 h2).mono fun g h3 _ => ⟨by omega, h3.2⟩⟩
/-- the result's variable, laid -/
theorem res_laid {x : Cx} {w : World} {s : PS} (h : PsAt w x s) : ∃ W, W = w.alloc (.cells zeroC 28) ∧ PsAt W x s ∧ Gr x w W ∧ W.heap[w.heap.size]? = some (.cells zeroC 28 (0, 0)) ∧ W.heap.size = w.heap.size + 1 := by
  have hb : Below w.heap.size w (w.alloc (.cells zeroC 28)) := (Below.refl _ _).alloc (Nat.le_refl _) _
  exact ⟨_, rfl, h.below hb, Gr.of_below hb, heap_alloc_new w _, by simp⟩
/-- a block that is not the parser's stays -/
theorem Gr.blk {x : Cx} {w w' : World} {b : Nat} {o : Obj} (h : Gr x w w') (hA : x.A ≠ b) (hb : w.heap[b]? = some o) : w'.heap[b]? = some o := by
  have hl : b < w.heap.size := by
    rcases Nat.lt_or_ge b w.heap.size with h1 | h1
    · exact h1
    · rw [Array.getElem?_eq_none h1] at hb; cases hb
  exact (h.block b hl fun e => hA (Option.some.inj e).symm).trans hb
theorem CmdV.form {B : Nat} {w : World} {c : Cd} {v : Value} (h : CmdV B w c v) : ∃ (k : Nat) (nt : Bool) (a1 a2 a3 a4 a5 : Option Addr) (n1 n2 n3 n4 n5 c1 c2 c3 c4 c5 : Nat), v = .agg #[.int .i64 k, .bool nt, .slice a1 n1 c1, .slice a2 n2 c2, .slice a3 n3 c3, .slice a4 n4 c4, .slice a5 n5 c5] ∧ CdAt w (fun g => B ≤ g) [.int .i64 k, .bool nt, .slice a1 n1 c1, .slice a2 n2 c2, .slice a3 n3 c3, .slice a4 n4 c4, .slice a5 n5 c5] c := by
  obtain ⟨cs, rfl, hc⟩ := h
  obtain ⟨k, nt, a1, a2, a3, a4, a5, n1, n2, n3, n4, n5, c1, c2, c3, c4, c5, rfl⟩ := hc.form
  exact ⟨k, nt, a1, a2, a3, a4, a5, n1, n2, n3, n4, n5, c1, c2, c3, c4, c5, rfl, hc⟩
set_option maxHeartbeats 2000000 in
theorem list_step {x : Cx} {n : Nat} (hA : ∀ w s, PsAt w x s → andorsP n s ≠ .out → Calls Tryz.prog 63 #[ptr x.A] w (PrR x w (andorsP n s) (ListV w.heap.size))) (w : World) (s : PS) (h : PsAt w x s) (hne : listP (n + 1) s ≠ .out) : Calls Tryz.prog 53 #[ptr x.A] w (PrR x w (listP (n + 1) s) (CmdV w.heap.size)) := by
  have hAl := h.lt
  obtain ⟨W, hW, h0, g0, z0, s0⟩ := res_laid h
  have HW := hide' hW
  have q := skip_any h0
  have HH := hide' (And.intro g0 (And.intro z0 s0))
  clear hW h0 g0 z0 s0 h
  obtain ⟨R, hR⟩ : ∃ R, listP (n + 1) s = R := ⟨_, rfl⟩
  rw [hR] at hne ⊢
  rw [listP] at hR
  have HR := hide' (And.intro hR hne)
  clear hR hne
  go_enter Tryz.func53, Tryz.ntmps53
  go_wp2_with fail
  rw [← HW.out]
  refine q.mono ?_
  rintro e w1 ⟨rfl, h1, g1⟩
  clear q
  obtain ⟨g0, z0, s0⟩ := HH.out
  have z1 := g1.blk (by omega) z0
  have q := hA w1 s.sk h1 (fun e => HR.out.2 (by rw [← HR.out.1, e]; rfl))
  have hs1 := g1.size
  have HK := hide' (And.intro (g0.trans g1) z1)
  clear h1 g1 g0 z0 z1 HH
  dsimp only
  go_wp2_with fail
  refine q.mono ?_
  rintro e w2 hr
  clear q
  cases hp : andorsP n s.sk with
  | out => exact absurd (by rw [← HR.out.1, hp]; rfl) HR.out.2
  | bad =>
    rw [hp] at hr
    obtain rfl : R = .bad := by rw [← HR.out.1, hp]; rfl
    obtain ⟨g2, b, p, rfl, hb⟩ := hr
    exact ⟨rfl, HK.out.1.trans g2, b, p, rfl, hb⟩
  | ok l s2 =>
    rw [hp] at hr
    obtain ⟨g2, h2, v, rfl, hv⟩ := hr
    obtain rfl : R = .ok (aloneP l) s2 := by rw [← HR.out.1, hp]; rfl
    obtain ⟨gg, z1⟩ := HK.out
    have z2 := g2.blk (by omega) z1
    have hs2 := g2.size
    have q := alone_any _ l w2 v hv
    have HJ := hide' (And.intro (gg.trans g2) (And.intro h2 z2))
    obtain ⟨kv, kc, rfl, hK⟩ := hv
    clear g2 h2 gg z1 z2 hK HK hp
    dsimp only
    go_wp2_with fail
    refine q.mono ?_
    rintro e w3 ⟨hb3, v3, rfl, hv3⟩
    clear q
    obtain ⟨gg, h2, z2⟩ := HJ.out
    obtain ⟨k, nt, a1, a2, a3, a4, a5, n1, n2, n3, n4, n5, c1, c2, c3, c4, c5, rfl, hc⟩ := hv3.form
    have z3 := (hb3.block _ (lt_of_block z2)).trans z2
    have HE := hide' (prr_end (gg.trans (Gr.of_below hb3)) (h2.below hb3) z3 (hc.mono fun g h1 _ => by omega))
    obtain ⟨r0, r1, r2, r3, r4, r5, r6⟩ := cells7 z3
    obtain ⟨f0, f1, f2, f3, f4, f5, f6⟩ := fz7 z3
    clear gg h2 z2 z3 hc hb3 HJ hv3
    dsimp only
    go_wp2
    obtain ⟨hV, hbk⟩ := HE.out _ rfl
    obtain ⟨d0, d1, d2, d3, d4, d5, d6⟩ := cells7 hbk
    refine bodyPost_ret (v := .agg #[.int .i64 k, .bool nt, .slice a1 n1 c1, .slice a2 n2 c2, .slice a3 n3 c3, .slice a4 n4 c4, .slice a5 n5 c5]) (by simp [results, Tryz.results53, go_sem, d0, d1, d2, d3, d4, d5, d6]) rfl ?_
    exact hV
end Go.Proofs.YtcemlhfodpelaaaGreatDoor
namespace Go.Proofs.YtcemlhfodpelaaaGreatDoor
open Go.RowKit

/-- a new row of commands -/
theorem kids_new (W : World) (B : Nat) (kc : List (List Value)) (ks : List Cd) (cells : Array Value) (hl : kc.length = ks.length) (hk : ∀ (i : Nat) cs c, kc[i]? = some cs → ks[i]? = some c → CdAt W (fun g => B ≤ g) cs c) (hB : B ≤ W.heap.size) (hc : cells.toList = kc.flatten) (h7 : cells.size = ks.length * 7) (hm : ks.length ≤ 100) (h0 : 0 < ks.length) :
    KidsAt (W.alloc (.cells cells 28)) B (.slice (some ⟨W.heap.size, 0, none⟩) ks.length ks.length) kc ks := by
  have hb : Below W.heap.size W (W.alloc (.cells cells 28)) := (Below.refl _ _).alloc (Nat.le_refl _) _
  refine ⟨⟨by rw [← hc, Array.length_toList, h7], .inr ⟨W.heap.size, ks.length, cells, rfl, hB, heap_alloc_new W _, Nat.le_refl _, by unfold maxLen; omega, h7, ?_, h0⟩⟩, hl, fun i cs c h1 h2 => ?_⟩
  · rw [← h7, ← Array.length_toList, List.take_length, hc]
  · exact ((hk i cs c h1 h2).mono (S' := fun g => B ≤ g ∧ (Value.slice (some ⟨W.heap.size, 0, none⟩) ks.length ks.length).ownBlock ≠ some g) fun g hg hs => ⟨hg, fun e => by have e : W.heap.size = g := Option.some.inj e; omega⟩).kept fun g _ hg => hb.block g hg
set_option maxHeartbeats 2000000 in
theorem lon_step {x : Cx} {n : Nat} (hA : ∀ w s, PsAt w x s → andorsP n s ≠ .out → Calls Tryz.prog 63 #[ptr x.A] w (PrR x w (andorsP n s) (ListV w.heap.size))) (w : World) (s : PS) (h : PsAt w x s) (hne : lonP (n + 1) s ≠ .out) : Calls Tryz.prog 37 #[ptr x.A] w (PrR x w (lonP (n + 1) s) (ListV w.heap.size)) := by
  have hAl := h.lt
  obtain ⟨W, hW, h0, g0, z0, s0⟩ := res_laid h
  have HW := hide' hW
  have q := skip_any h0
  have HH := hide' (And.intro g0 (And.intro z0 s0))
  clear hW h0 g0 z0 s0 h
  obtain ⟨R, hR⟩ : ∃ R, lonP (n + 1) s = R := ⟨_, rfl⟩
  rw [hR] at hne ⊢
  rw [lonP] at hR
  have HR := hide' (And.intro hR hne)
  clear hR hne
  go_enter Tryz.func37, Tryz.ntmps37
  go_wp2_with fail
  rw [← HW.out]
  refine q.mono ?_
  rintro e w1 ⟨rfl, h1, g1⟩
  clear q
  obtain ⟨g0, z0, s0⟩ := HH.out
  have z1 := g1.blk (by omega) z0
  have q := ends_any h1
  have hs1 := g1.size
  have HK := hide' (And.intro (g0.trans g1) (And.intro z1 h1))
  clear h1 g1 g0 z0 z1 HH
  obtain ⟨eb, heb⟩ : ∃ eb, endsB (tx s.sk.ts) = eb := ⟨_, rfl⟩
  rw [heb] at q
  have HB := hide' heb
  clear heb
  dsimp only
  go_wp2_with fail
  refine q.mono ?_
  rintro e w2 ⟨rfl, m, hw2⟩
  clear q
  obtain ⟨gg, z1, h1⟩ := HK.out
  have h2 : PsAt w2 x s.sk := by rw [hw2]; exact h1.drewN m
  have g2 : Gr x w w2 := by rw [hw2]; exact gg.trans (Gr.drewN x _ m)
  have z2 : w2.heap[w.heap.size]? = some (.cells zeroC 28 (0, 0)) := by rw [hw2]; exact z1
  have hs2 : w.heap.size + 1 ≤ w2.heap.size := by rw [hw2]; show _ ≤ w1.heap.size; omega
  clear hw2 gg z1 h1 HK hs1
  cases eb with
  | true =>
    obtain rfl : R = .ok [] s.sk := by rw [← HR.out.1, if_pos HB.out]
    have HE := hide' (prr_endL g2 h2 z2 (KidsAt.nil w2 (w.heap.size + 1)))
    obtain ⟨r0, r1, r2, r3, r4, r5, r6⟩ := cells7 z2
    obtain ⟨f0, f1, f2, f3, f4, f5, f6⟩ := fz7 z2
    clear g2 h2 z2
    dsimp only
    go_wp2
    obtain ⟨hV, hbk⟩ := HE.out _ rfl
    obtain ⟨d0, d1, d2, d3, d4, d5, d6⟩ := cells7 hbk
    refine bodyPost_ret (v := .agg #[.int .i64 5, .bool false, .slice none 0 0, .slice none 0 0, .slice none 0 0, .slice none 0 0, .slice none 0 0]) (by simp [results, Tryz.results37, go_sem, d0, d1, d2, d3, d4, d5, d6]) rfl ?_
    exact hV
  | false =>
    have hRR : andorsP n s.sk = R := by rw [← HR.out.1, if_neg (by rw [HB.out]; decide)]
    have q := hA w2 s.sk h2 (by rw [hRR]; exact HR.out.2)
    have HK := hide' (And.intro g2 z2)
    clear g2 z2 h2
    dsimp only
    go_wp2_with fail
    refine q.mono ?_
    rintro e w3 hr
    clear q
    rw [hRR] at hr
    clear hRR
    cases R with
    | out => exact absurd rfl HR.out.2
    | bad =>
      obtain ⟨g3, b, p, rfl, hb⟩ := hr
      exact ⟨rfl, HK.out.1.trans g3, b, p, rfl, hb⟩
    | ok l s3 =>
      obtain ⟨g3, h3, v, rfl, kv, kc, rfl, hK⟩ := hr
      obtain ⟨gg, z2⟩ := HK.out
      have z3 := g3.blk (by omega) z2
      have hK3 : KidsAt w3 (w.heap.size + 1) kv kc l := ⟨hK.row.mono fun g h1 _ => by omega, hK.len, fun i cs c h1 h2 => (hK.kid i cs c h1 h2).mono fun g h3 _ => ⟨by omega, h3.2⟩⟩
      have HE := hide' (prr_endL (gg.trans g3) h3 z3 hK3)
      obtain ⟨ka, kcap, rfl⟩ := hK.row.form
      obtain ⟨ln, hln⟩ : ∃ ln, ln = l.length := ⟨_, rfl⟩
      rw [← hln] at HE ⊢
      obtain ⟨r0, r1, r2, r3, r4, r5, r6⟩ := cells7 z3
      obtain ⟨f0, f1, f2, f3, f4, f5, f6⟩ := fz7 z3
      clear g3 h3 gg z2 z3 hK hK3 HK hln
      dsimp only
      go_wp2
      obtain ⟨hV, hbk⟩ := HE.out _ rfl
      obtain ⟨d0, d1, d2, d3, d4, d5, d6⟩ := cells7 hbk
      refine bodyPost_ret (v := .agg #[.int .i64 5, .bool false, .slice none 0 0, .slice none 0 0, .slice none 0 0, .slice ka ln kcap, .slice none 0 0]) (by simp [results, Tryz.results37, go_sem, d0, d1, d2, d3, d4, d5, d6]) rfl ?_
      exact hV
set_option maxHeartbeats 2000000 in
theorem enclosed_step {x : Cx} {n : Nat} (hL : ∀ w s, PsAt w x s → listP n s ≠ .out → Calls Tryz.prog 53 #[ptr x.A] w (PrR x w (listP n s) (CmdV w.heap.size))) (kk : Nat) (en : Bs) (hen : en ≠ []) (w : World) (s : PS) (h : PsAt w x s) (R : PR Cd) (hR : (andT (listP n s) fun c s' => andT (wantP en s') fun _ s2 => .ok (.mk kk false [] [] [] [c] []) s2) = R) (hne : R ≠ .out) :
    Calls Tryz.prog 52 #[ptr x.A, .int .i64 kk, .string (mk en)] w (PrR x w R (CmdV w.heap.size)) := by
  have hAl := h.lt
  obtain ⟨W, hW, h0, g0, z0, s0⟩ := res_laid h
  have HW := hide' hW
  have q := hL W s h0 (fun e => hne (by rw [← hR, e]; rfl))
  have HH := hide' (And.intro g0 (And.intro z0 s0))
  have HR := hide' (And.intro hR hne)
  clear hW h0 g0 z0 s0 h hR hne
  go_enter Tryz.func52, Tryz.ntmps52
  go_wp2_with fail
  rw [← HW.out]
  refine q.mono ?_
  rintro e w1 hr
  clear q
  obtain ⟨g0, z0, s0⟩ := HH.out
  cases hp : listP n s with
  | out => exact absurd (by rw [← HR.out.1, hp]; rfl) HR.out.2
  | bad =>
    rw [hp] at hr
    obtain rfl : R = .bad := by rw [← HR.out.1, hp]; rfl
    obtain ⟨g2, b, p, rfl, hb⟩ := hr
    exact ⟨rfl, g0.trans g2, b, p, rfl, hb⟩
  | ok c s1 =>
    rw [hp] at hr
    obtain ⟨g1, h1, v, rfl, hv⟩ := hr
    obtain ⟨k, nt, a1, a2, a3, a4, a5, n1, n2, n3, n4, n5, c1, c2, c3, c4, c5, rfl, hc⟩ := hv.form
    have z1 := g1.blk (by omega) z0
    have hs1 := g1.size
    -- the row, the box
    have hk1 := kids_new w1 (w.heap.size + 1) [[.int .i64 k, .bool nt, .slice a1 n1 c1, .slice a2 n2 c2, .slice a3 n3 c3, .slice a4 n4 c4, .slice a5 n5 c5]] [c] #[.int .i64 k, .bool nt, .slice a1 n1 c1, .slice a2 n2 c2, .slice a3 n3 c3, .slice a4 n4 c4, .slice a5 n5 c5] rfl (fun i cs c' e1 e2 => by
      match i, e1, e2 with
      | 0, e1, e2 => cases e1; cases e2; exact hc.mono fun g hg _ => by omega) (by omega) rfl rfl (by simp) (by simp)
    obtain ⟨w2, hw2⟩ : ∃ w2, w2 = (w1.alloc (.cells #[.int .i64 k, .bool nt, .slice a1 n1 c1, .slice a2 n2 c2, .slice a3 n3 c3, .slice a4 n4 c4, .slice a5 n5 c5] 28)).alloc (.cells #[.int .i64 kk, .bool false, .slice none 0 0, .slice none 0 0, .slice none 0 0, .slice (some ⟨w1.heap.size, 0, none⟩) 1 1, .slice none 0 0] 28) := ⟨_, rfl⟩
    have hb1 : Below w1.heap.size w1 (w1.alloc (.cells #[.int .i64 k, .bool nt, .slice a1 n1 c1, .slice a2 n2 c2, .slice a3 n3 c3, .slice a4 n4 c4, .slice a5 n5 c5] 28)) := (Below.refl _ _).alloc (Nat.le_refl _) _
    have hb2' : Below (w1.alloc (.cells #[.int .i64 k, .bool nt, .slice a1 n1 c1, .slice a2 n2 c2, .slice a3 n3 c3, .slice a4 n4 c4, .slice a5 n5 c5] 28)).heap.size (w1.alloc (.cells #[.int .i64 k, .bool nt, .slice a1 n1 c1, .slice a2 n2 c2, .slice a3 n3 c3, .slice a4 n4 c4, .slice a5 n5 c5] 28)) w2 := by rw [hw2]; exact (Below.refl _ _).alloc (Nat.le_refl _) _
    have hb2 : Below w1.heap.size w1 w2 := hb1.trans (hb2'.mono (by simp))
    have hk2 : KidsAt w2 (w.heap.size + 1) (.slice (some ⟨w1.heap.size, 0, none⟩) 1 1) [[.int .i64 k, .bool nt, .slice a1 n1 c1, .slice a2 n2 c2, .slice a3 n3 c3, .slice a4 n4 c4, .slice a5 n5 c5]] [c] := hk1.kept fun g _ hg => hb2'.block g hg
    have zb : w2.heap[w1.heap.size + 1]? = some (.cells #[.int .i64 kk, .bool false, .slice none 0 0, .slice none 0 0, .slice none 0 0, .slice (some ⟨w1.heap.size, 0, none⟩) 1 1, .slice none 0 0] 28 (0, 0)) := by
      rw [hw2]
      have := heap_alloc_new (w1.alloc (.cells #[.int .i64 k, .bool nt, .slice a1 n1 c1, .slice a2 n2 c2, .slice a3 n3 c3, .slice a4 n4 c4, .slice a5 n5 c5] 28)) (.cells #[.int .i64 kk, .bool false, .slice none 0 0, .slice none 0 0, .slice none 0 0, .slice (some ⟨w1.heap.size, 0, none⟩) 1 1, .slice none 0 0] 28)
      simpa using this
    have h2 := h1.below hb2
    have g2 : Gr x w w2 := (g0.trans g1).trans (Gr.of_below hb2)
    have z2 := (hb2.block _ (lt_of_block z1)).trans z1
    have hs2 : w2.heap.size = w1.heap.size + 2 := by rw [hw2]; simp
    have HW2 := hide' hw2
    clear hk1 hb1 hb2' hb2 hw2 h1 g1 z1 g0 z0 hc hv HH
    by_cases hwt : tx s1.ts = en
    · have q := want_yes h2 en hen hwt
      obtain rfl : R = .ok (.mk kk false [] [] [] [c] []) s1.nx := by rw [← HR.out.1, hp]; simp [andT, wantP, hwt]
      have HK := hide' (And.intro g2 (And.intro z2 (And.intro hk2 zb)))
      clear g2 z2 hk2 zb h2 hp hwt
      dsimp only
      go_wp2_with fail
      rw [← HW2.out]
      refine q.mono ?_
      rintro e w3 ⟨rfl, h3, g3⟩
      clear q
      obtain ⟨g2, z2, hk2, zb⟩ := HK.out
      have z3 := g3.blk (by omega) z2
      have zb3 := g3.blk (by omega) zb
      have hk3 : KidsAt w3 (w.heap.size + 1) (.slice (some ⟨w1.heap.size, 0, none⟩) 1 1) [[.int .i64 k, .bool nt, .slice a1 n1 c1, .slice a2 n2 c2, .slice a3 n3 c3, .slice a4 n4 c4, .slice a5 n5 c5]] [c] := hk2.kept fun g hg hl => g3.block g hl fun e => by have := Option.some.inj e; omega
      have HE := hide' (prr_end (g2.trans g3) h3 z3 (hk3.cmd kk false))
      obtain ⟨o0, o1, o2, o3, o4, o5, o6⟩ := cells7 zb3
      obtain ⟨r0, r1, r2, r3, r4, r5, r6⟩ := cells7 z3
      obtain ⟨f0, f1, f2, f3, f4, f5, f6⟩ := fz7 z3
      clear g2 z2 hk2 zb z3 zb3 hk3 h3 g3 HK
      dsimp only
      go_wp2
      obtain ⟨hV, hbk⟩ := HE.out _ rfl
      obtain ⟨d0, d1, d2, d3, d4, d5, d6⟩ := cells7 hbk
      refine bodyPost_ret (v := .agg #[.int .i64 kk, .bool false, .slice none 0 0, .slice none 0 0, .slice none 0 0, .slice (some ⟨w1.heap.size, 0, none⟩) 1 1, .slice none 0 0]) (by simp [results, Tryz.results52, go_sem, d0, d1, d2, d3, d4, d5, d6]) rfl ?_
      exact hV
    · have q := want_no h2 en hwt
      obtain rfl : R = .bad := by rw [← HR.out.1, hp]; simp [andT, wantP, hwt]
      clear z2 hk2 zb h2 hp hwt
      dsimp only
      go_wp2_with fail
      rw [← HW2.out]
      refine q.mono ?_
      rintro e w3 ⟨g3, b, p, rfl, hb⟩
      exact ⟨rfl, g2.trans g3, b, p, rfl, hb⟩
set_option maxHeartbeats 2000000 in
theorem sub_step {x : Cx} {n : Nat} (hL : ∀ w s, PsAt w x s → listP n s ≠ .out → Calls Tryz.prog 53 #[ptr x.A] w (PrR x w (listP n s) (CmdV w.heap.size))) (w : World) (s : PS) (h : PsAt w x s) (hne : formP (n + 1) .sub s ≠ .out) : Calls Tryz.prog 30 #[ptr x.A] w (PrR x w (formP (n + 1) .sub s) (CmdV w.heap.size)) := by
  have hAl := h.lt
  obtain ⟨W, hW, h0, g0, z0, s0⟩ := res_laid h
  have HW := hide' hW
  obtain ⟨R, hR⟩ : ∃ R, formP (n + 1) .sub s = R := ⟨_, rfl⟩
  rw [hR] at hne ⊢
  rw [formP] at hR
  have q := enclosed_step hL 11 [41] (by simp) W s h0 R hR hne
  have HK := hide' (And.intro g0 z0)
  clear hW h0 g0 z0 h hR
  go_enter Tryz.func30, Tryz.ntmps30
  go_wp2_with fail
  rw [← HW.out]
  refine q.mono ?_
  rintro e w1 hr
  clear q
  obtain ⟨g0, z0⟩ := HK.out
  cases R with
  | out => exact absurd rfl hne
  | bad =>
    obtain ⟨g2, b, p, rfl, hb⟩ := hr
    exact ⟨rfl, g0.trans g2, b, p, rfl, hb⟩
  | ok c s1 =>
    obtain ⟨g1, h1, v, rfl, hv⟩ := hr
    obtain ⟨k, nt, a1, a2, a3, a4, a5, n1, n2, n3, n4, n5, c1, c2, c3, c4, c5, rfl, hc⟩ := hv.form
    have z1 := g1.blk (by omega) z0
    have HE := hide' (prr_end (g0.trans g1) h1 z1 (hc.mono fun g hg _ => by omega))
    obtain ⟨r0, r1, r2, r3, r4, r5, r6⟩ := cells7 z1
    obtain ⟨f0, f1, f2, f3, f4, f5, f6⟩ := fz7 z1
    clear g0 z0 g1 h1 z1 hc hv HK hne
    dsimp only
    go_wp2
    obtain ⟨hV, hbk⟩ := HE.out _ rfl
    obtain ⟨d0, d1, d2, d3, d4, d5, d6⟩ := cells7 hbk
    refine bodyPost_ret (v := .agg #[.int .i64 k, .bool nt, .slice a1 n1 c1, .slice a2 n2 c2, .slice a3 n3 c3, .slice a4 n4 c4, .slice a5 n5 c5]) (by simp [results, Tryz.results30, go_sem, d0, d1, d2, d3, d4, d5, d6]) rfl ?_
    exact hV
set_option maxHeartbeats 2000000 in
theorem grp_step {x : Cx} {n : Nat} (hL : ∀ w s, PsAt w x s → listP n s ≠ .out → Calls Tryz.prog 53 #[ptr x.A] w (PrR x w (listP n s) (CmdV w.heap.size))) (w : World) (s : PS) (h : PsAt w x s) (hne : formP (n + 1) .grp s ≠ .out) : Calls Tryz.prog 31 #[ptr x.A] w (PrR x w (formP (n + 1) .grp s) (CmdV w.heap.size)) := by
  have hAl := h.lt
  obtain ⟨W, hW, h0, g0, z0, s0⟩ := res_laid h
  have HW := hide' hW
  obtain ⟨R, hR⟩ : ∃ R, formP (n + 1) .grp s = R := ⟨_, rfl⟩
  rw [hR] at hne ⊢
  rw [formP] at hR
  have q := enclosed_step hL 10 [125] (by simp) W s h0 R hR hne
  have HK := hide' (And.intro g0 z0)
  clear hW h0 g0 z0 h hR
  go_enter Tryz.func31, Tryz.ntmps31
  go_wp2_with fail
  rw [← HW.out]
  refine q.mono ?_
  rintro e w1 hr
  clear q
  obtain ⟨g0, z0⟩ := HK.out
  cases R with
  | out => exact absurd rfl hne
  | bad =>
    obtain ⟨g2, b, p, rfl, hb⟩ := hr
    exact ⟨rfl, g0.trans g2, b, p, rfl, hb⟩
  | ok c s1 =>
    obtain ⟨g1, h1, v, rfl, hv⟩ := hr
    obtain ⟨k, nt, a1, a2, a3, a4, a5, n1, n2, n3, n4, n5, c1, c2, c3, c4, c5, rfl, hc⟩ := hv.form
    have z1 := g1.blk (by omega) z0
    have HE := hide' (prr_end (g0.trans g1) h1 z1 (hc.mono fun g hg _ => by omega))
    obtain ⟨r0, r1, r2, r3, r4, r5, r6⟩ := cells7 z1
    obtain ⟨f0, f1, f2, f3, f4, f5, f6⟩ := fz7 z1
    clear g0 z0 g1 h1 z1 hc hv HK hne
    dsimp only
    go_wp2
    obtain ⟨hV, hbk⟩ := HE.out _ rfl
    obtain ⟨d0, d1, d2, d3, d4, d5, d6⟩ := cells7 hbk
    refine bodyPost_ret (v := .agg #[.int .i64 k, .bool nt, .slice a1 n1 c1, .slice a2 n2 c2, .slice a3 n3 c3, .slice a4 n4 c4, .slice a5 n5 c5]) (by simp [results, Tryz.results31, go_sem, d0, d1, d2, d3, d4, d5, d6]) rfl ?_
    exact hV
end Go.Proofs.YtcemlhfodpelaaaGreatDoor
