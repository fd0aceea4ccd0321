/- script. The deferred closure of gram.Parse. -/
import Derived.Test.YtcemlhfodpelaaaGreatDoorZn
namespace Go.Proofs.YtcemlhfodpelaaaGreatDoor
open Go.RowKit

/-- what script tells -/
def ScR (x : Cx) (w : World) (R : GR) (e : Ending) (w' : World) : Prop := match R with
  | .ok l => Gr x w w' ∧ ∃ v, e = .returned v ∧ ListV w.heap.size w' l v
  | .err n => Gv x w n e w'
  | .none => True
set_option maxHeartbeats 1000000 in
theorem giveUp_blk {x : Cx} {w : World} {v0 v2 v3 v4 : Value} {p : Int} (h : w.heap[x.A]? = some (.cells #[v0, .int .i64 p, v2, v3, v4] 73 (0, 0))) (n : Nat) : Calls Tryz.prog 39 #[ptr x.A, .int .i64 n] w fun e w' => Gv x w n e w' := by
  have a1 : w.cell? ⟨x.A, 1, none⟩ = some (.int .i64 p) := by rw [Lib.cell_of_heap h]; rfl
  have hb : Below w.heap.size w (w.alloc (.cells #[.int .i64 p, .iface 29 (.int .i64 n)] 109)) := (Below.refl _ _).alloc (Nat.le_refl _) _
  obtain ⟨A, M, g, cap, tk⟩ := x
  dsimp only at *
  clear h
  go_enter Tryz.func39, Tryz.ntmps39
  go_wp2
  refine ⟨rfl, Gr.of_below hb, w.heap.size, .int .i64 p, rfl, heap_alloc_new w _⟩
set_option maxHeartbeats 1000000 in
theorem want_end {w : World} {x : Cx} {s : PS} (h : PsAt w x s) (he : tx s.ts = []) : Calls Tryz.prog 38 #[ptr x.A, .string ⟨#[]⟩] w fun e w' => e = .returned (.tuple #[]) ∧ Gr x w w' ∧ ∃ v0 v2 v3 : Value, ∃ p : Int, w'.heap[x.A]? = some (.cells #[v0, .int .i64 p, v2, v3, .int .i64 s.dm] 73 (0, 0)) := by
  have qp : Calls Tryz.prog 54 #[ptr x.A, .string ⟨#[]⟩] w fun e w' => e = .returned (.bool true) ∧ Gr x w w' ∧ ∃ v0 v2 v3 : Value, ∃ p : Int, w'.heap[x.A]? = some (.cells #[v0, .int .i64 p, v2, v3, .int .i64 s.dm] 73 (0, 0)) := by
    have q := text_any h
    rw [he] at q
    have HH := hide' h
    clear h he
    go_enter Tryz.func54, Tryz.ntmps54
    go_wp2_with fail
    refine q.mono ?_
    rintro e w1 ⟨rfl, n, hw1⟩
    clear q
    obtain ⟨p, h1⟩ : PsAt w1 x s := by rw [hw1]; exact HH.out.drewN n
    have g1 : Gr x w w1 := by rw [hw1]; exact Gr.drewN x w n
    have a1 := h1.fields.2.1
    have f1 := h1.fz 1
    have hpl := h1.lt
    have hln := h1.len
    have hw : IntKind.i64.wrap ((p : Int) + 1) = (p : Int) + 1 := by rw [IntKind.wrap_i64]; omega
    have hb := set_block h1.blk 1 (.int .i64 ((p : Int) + 1))
    have hg : w1.grownBy (w1.setCell ⟨x.A, 1, none⟩ (.int .i64 ((p : Int) + 1))) (some x.A) := grown_set ⟨rfl, rfl, rfl, Nat.le_refl _, fun _ _ _ => rfl⟩ 1 _
    have HE := hide' (And.intro (g1.trans hg) hb)
    obtain ⟨A, M, g, cap, tk⟩ := x
    dsimp only at *
    clear h1 g1 hb hg hw1 HH
    go_wp2
    go_ret
    exact ⟨rfl, HE.out.1, _, _, _, _, HE.out.2⟩
  clear h he
  go_enter Tryz.func38, Tryz.ntmps38
  go_wp2_with fail
  refine qp.mono ?_
  rintro e w1 ⟨rfl, hG, hb⟩
  have HJ := hide' (And.intro hG hb)
  clear qp hG hb
  dsimp only
  go_wp2
  go_end0
  exact ⟨rfl, HJ.out⟩
theorem endL {x : Cx} {w W : World} {l : List Cd} {kv : Value} {kc : List (List Value)} (hG : Gr x w W) (hz : W.heap[w.heap.size]? = some (.cells zeroC 28 (0, 0))) (hc : KidsAt W (w.heap.size + 1) kv kc l) :
    ∀ W2, W2 = set7 W w.heap.size (.int .i64 5) (.bool false) (.slice none 0 0) (.slice none 0 0) (.slice none 0 0) kv (.slice none 0 0) → ScR x w (.ok l) (.returned (.agg #[.int .i64 5, .bool false, .slice none 0 0, .slice none 0 0, .slice none 0 0, kv, .slice none 0 0])) W2 ∧ W2.heap[w.heap.size]? = some (.cells #[.int .i64 5, .bool false, .slice none 0 0, .slice none 0 0, .slice none 0 0, kv, .slice none 0 0] 28 (0, 0)) := by
  intro W2 hW2
  have hg := set7_grown W w.heap.size (.int .i64 5) (.bool false) (.slice none 0 0) (.slice none 0 0) (.slice none 0 0) kv (.slice none 0 0)
  have hb := set7_blk hz (.int .i64 5) (.bool false) (.slice none 0 0) (.slice none 0 0) (.slice none 0 0) kv (.slice none 0 0)
  rw [← hW2] at hg hb
  have hk : KidsAt W2 (w.heap.size + 1) kv kc l := hc.kept fun g h1 h2 => hg.block g h2 fun e => by have := Option.some.inj e; omega
  exact ⟨⟨hG.grown hg fun g e => by have := Option.some.inj e; omega, _, rfl, kv, kc, rfl, hk.mono fun g h1 _ => by omega⟩, hb⟩
set_option maxRecDepth 100000 in
set_option maxHeartbeats 4000000 in
theorem script_any {x : Cx} {n : Nat} (hL : ∀ w s, PsAt w x s → lonP n s ≠ .out → Calls Tryz.prog 37 #[ptr x.A] w (PrR x w (lonP n s) (ListV w.heap.size))) (w : World) (ts : List Tok) (h : PsAt w x ⟨ts, 0, 0⟩) (hne : scriptP n ts ≠ .none) : Calls Tryz.prog 19 #[ptr x.A] w (ScR x w (scriptP n ts)) := by
  have hAl := h.lt
  obtain ⟨W, hW, h0, g0, z0, s0⟩ := res_laid h
  have HW := hide' hW
  obtain ⟨R, hR⟩ : ∃ R, scriptP n ts = R := ⟨_, rfl⟩
  rw [hR] at hne ⊢
  unfold scriptP at hR
  have HNo := hide' (show lonP n ⟨ts, 0, 0⟩ ≠ .out from fun e => hne (by rw [← hR, e]))
  have q := hL W _ h0 HNo.out
  have HR := hide' (And.intro hR hne)
  have HH := hide' (And.intro g0 (And.intro z0 s0))
  clear hW h0 g0 z0 s0 h hR hne
  go_enter Tryz.func19, Tryz.ntmps19
  go_wp2_with fail
  rw [← HW.out]
  refine q.mono ?_
  rintro e w1 hr
  clear q
  obtain ⟨g0, z0, s0⟩ := HH.out
  cases hp : lonP n ⟨ts, 0, 0⟩ with
  | out => exact absurd hp HNo.out
  | bad =>
    rw [hp] at hr
    obtain rfl : R = .err 31 := by rw [← HR.out.1, hp]
    obtain ⟨g2, b, p, rfl, hb⟩ := hr
    exact ⟨rfl, g0.trans g2, b, p, rfl, hb⟩
  | ok l s1 =>
    rw [hp] at hr
    have HR2 := hide' (show (if tx s1.ts = [] then (if 60 < s1.dm then GR.err 42 else .ok l) else .err 31) = R by rw [← HR.out.1, hp])
    obtain ⟨g1, h1, v, rfl, kv, kc, rfl, hK⟩ := hr
    obtain ⟨ka, kcap, rfl⟩ := hK.row.form
    obtain ⟨kn, hkn⟩ : ∃ kn, kn = l.length := ⟨_, rfl⟩
    rw [← hkn] at hK ⊢
    have z1 := g1.blk (by omega) z0
    have hs1 := g1.size
    obtain ⟨w2, hw2⟩ : ∃ w2, w2 = w1.alloc (.cells #[.int .i64 5, .bool false, .slice none 0 0, .slice none 0 0, .slice none 0 0, .slice ka kn kcap, .slice none 0 0] 28) := ⟨_, rfl⟩
    have hb2 : Below w1.heap.size w1 w2 := by rw [hw2]; exact (Below.refl _ _).alloc (Nat.le_refl _) _
    have zb : w2.heap[w1.heap.size]? = some (.cells #[.int .i64 5, .bool false, .slice none 0 0, .slice none 0 0, .slice none 0 0, .slice ka kn kcap, .slice none 0 0] 28 (0, 0)) := by rw [hw2]; exact heap_alloc_new w1 _
    have h2 := h1.below hb2
    have g2 := (g0.trans g1).trans (Gr.of_below hb2)
    have z2 := (hb2.block _ (lt_of_block z1)).trans z1
    have hK2 : KidsAt w2 (w.heap.size + 1) (.slice ka kn kcap) kc l := (hK.mono fun g hg _ => by omega).kept fun g _ hg => hb2.block g hg
    have HW2 := hide' hw2
    have HK := hide' (And.intro g2 (And.intro z2 (And.intro hK2 zb)))
    clear hw2 hb2 h1 g1 g0 z0 z1 HH hK hp hkn g2 z2 hK2 zb
    by_cases hend : tx s1.ts = []
    · have q := want_end h2 hend
      have HR3 := hide' (show (if 60 < s1.dm then GR.err 42 else .ok l) = R by rw [← HR2.out, if_pos hend])
      obtain ⟨dm, hdm⟩ : ∃ dm, dm = s1.dm := ⟨_, rfl⟩
      rw [← hdm] at q HR3
      clear h2 hend HR2 hdm
      dsimp only
      go_wp2_with fail
      rw [← HW2.out]
      refine q.mono ?_
      rintro e w3 ⟨rfl, g3, v0, v2, v3, p, hb3⟩
      clear q
      obtain ⟨g2, z2, hK2, zb⟩ := HK.out
      have hA3 : x.A < w.heap.size := hAl
      have z3 := g3.blk (b := w.heap.size) (by omega) z2
      have zb3 := g3.blk (b := w1.heap.size) (by omega) zb
      have hK3 : KidsAt w3 (w.heap.size + 1) (.slice ka kn kcap) kc l := hK2.kept fun g hg hl => g3.block g hl fun e => by have := Option.some.inj e; omega
      have a4 : w3.cell? ⟨x.A, 4, none⟩ = some (.int .i64 dm) := by rw [Lib.cell_of_heap hb3]; rfl
      by_cases h60 : 60 < dm
      · have h60' : (60 : Int) < (dm : Int) := by omega
        obtain rfl : R = .err 42 := by rw [← HR3.out, if_pos h60]
        have q := giveUp_blk (x := x) hb3 42
        have HG := hide' (g2.trans g3)
        clear g2 z2 hK2 zb g3 z3 zb3 hK3 hb3 h60 HK
        dsimp only
        go_wp2_with fail
        refine q.mono ?_
        rintro e w4 ⟨g4, b, p, rfl, hb⟩
        exact ⟨rfl, HG.out.trans g4, b, p, rfl, hb⟩
      · have h60' : ¬ (60 : Int) < (dm : Int) := by omega
        obtain rfl : R = .ok l := by rw [← HR3.out, if_neg h60]
        have HE := hide' (endL (g2.trans g3) z3 hK3)
        obtain ⟨o0, o1, o2, o3, o4, o5, o6⟩ := cells7 zb3
        obtain ⟨r0, r1, r2, r3, r4, r5, r6⟩ := cells7 z3
        obtain ⟨f0, f1, f2, f3, f4, f5, f6⟩ := fz7 z3
        clear g2 z2 hK2 zb g3 z3 zb3 hK3 hb3 h60 HK
        dsimp only
        go_wp2
        obtain ⟨hV, hbk⟩ := HE.out _ rfl
        obtain ⟨d0, d1, d2, d3, d4, d5, d6⟩ := cells7 hbk
        refine bodyPost_ret (v := .agg #[.int .i64 5, .bool false, .slice none 0 0, .slice none 0 0, .slice none 0 0, .slice ka kn kcap, .slice none 0 0]) (by simp [results, Tryz.results19, go_sem, d0, d1, d2, d3, d4, d5, d6]) rfl ?_
        exact hV
    · have q := want_no h2 [] hend
      obtain rfl : R = .err 31 := by rw [← HR2.out, if_neg hend]
      clear h2 hend HR2
      dsimp only
      go_wp2_with fail
      rw [← HW2.out]
      refine q.mono ?_
      rintro e w3 ⟨g3, b, p, rfl, hb⟩
      exact ⟨rfl, HK.out.1.trans g3, b, p, rfl, hb⟩
end Go.Proofs.YtcemlhfodpelaaaGreatDoor
namespace Go.Proofs.YtcemlhfodpelaaaGreatDoor
open Go.RowKit

theorem pasrt_nil (w : World) : (Instr.typeAssert .nilIface 20 48 true).run Tryz.prog w = .ok (.tuple #[.nilIface, .bool false]) w := by kernel_rfl
theorem pasrt_err (a : Addr) (w : World) : (Instr.typeAssert (.iface 107 (.pointer (some a))) 20 48 true).run Tryz.prog w = .ok (.tuple #[.iface 107 (.pointer (some a)), .bool true]) w := by kernel_rfl
set_option maxHeartbeats 1000000 in
theorem pcatch_idle (p q : Addr) (w : World) :
    CallsD Tryz.prog 16 #[.pointer (some p), .pointer (some q)] .returning w fun e u' w' => e = .returned (.tuple #[]) ∧ u' = .returning ∧ w' = w := by
  refine callsD_of_wpS Tryz.func16 rfl fun c₀ cs hu => ?_
  have ha := pasrt_nil
  apply wpS_seq
  apply wpS_region
  simp [wpOpsS, go_sem, recoverD, hu, Tryz.ntmps16, Exit.thenS, ha]
  apply wpS_seq
  apply wpS_region
  simp [wpOpsS, go_sem, Exit.thenS, Array.replicate]
  refine wpS_cond (t := false) (by simp [Act.eval]) ?_
  simp only [Bool.false_eq_true, if_false]
  refine wpS_of_wp (wp_skip ?_)
  cases c₀
  simp_all [bodyPostS, results, Tryz.results16]
set_option maxHeartbeats 2000000 in
theorem pcatch_panicking (p q b : Nat) (u0 u1 u2 u3 u4 u5 u6 y pv : Value) (n : Int) (older : List PanicEntry) (w : World) (hE : EtW w) (hc : w.heap[p]? = some (.cells #[u0, u1, u2, u3, u4, u5, u6] 28 (0, 0))) (hd : w.heap[q]? = some (.cells #[y] 29 (0, 0))) (hb : w.heap[b]? = some (.cells #[pv, .iface 29 (.int .i64 n)] 109 (0, 0))) :
    CallsD Tryz.prog 16 #[.pointer (some ⟨p, 0, none⟩), .pointer (some ⟨q, 0, none⟩)] (.panicking ({ v := .iface 107 (.pointer (some ⟨b, 0, none⟩)), recovered := false } :: older)) w fun e u' w' =>
      e = .returned (.tuple #[]) ∧ u' = .panicking ({ v := .iface 107 (.pointer (some ⟨b, 0, none⟩)), recovered := true } :: older) ∧ w.heap.size ≤ w'.heap.size ∧ w'.os = w.os ∧ w'.tape = w.tape ∧ w'.output = w.output ∧ (∀ k, k < w.heap.size → k ≠ p → k ≠ q → w'.heap[k]? = w.heap[k]?) ∧ w'.heap[p]? = some (.cells zeroC 28 (0, 0)) ∧ w'.heap[q]? = some (.cells #[.int .i64 n] 29 (0, 0)) := by
  refine callsD_of_wpS Tryz.func16 rfl fun c₀ cs hu => ?_
  have ha := pasrt_err ⟨b, 0, none⟩
  have hpq : q ≠ p := fun e => by rw [e, hc] at hd; simp at hd
  have qn := number_any b n w hE (by rw [Lib.cell_of_heap hb]; rfl)
  apply wpS_seq
  apply wpS_region
  simp [wpOpsS, go_sem, recoverD, hu, Tryz.ntmps16, Exit.thenS, ha]
  apply wpS_seq
  apply wpS_region
  simp [wpOpsS, go_sem, Exit.thenS, Array.replicate]
  refine wpS_cond (t := true) (by simp [Act.eval]) ?_
  simp only [if_true]
  refine wpS_of_wp ?_
  have HH := hide' (And.intro hc (And.intro hd hpq))
  clear hc hd hb hE ha hpq
  go_wp2_with fail
  refine qn.mono ?_
  rintro r w1 ⟨rfl, hb1⟩
  clear qn
  obtain ⟨hc, hd, hpq⟩ := HH.out
  have hc1 := (hb1.block p (lt_of_block hc)).trans hc
  have hd1 := (hb1.block q (lt_of_block hd)).trans hd
  have hg2 := set7_grown w1 p (.int .i64 0) (.bool false) (.slice none 0 0) (.slice none 0 0) (.slice none 0 0) (.slice none 0 0) (.slice none 0 0)
  have hc2 := set7_blk hc1 (.int .i64 0) (.bool false) (.slice none 0 0) (.slice none 0 0) (.slice none 0 0) (.slice none 0 0) (.slice none 0 0)
  obtain ⟨w2, hw2⟩ : ∃ w2, w2 = set7 w1 p (.int .i64 0) (.bool false) (.slice none 0 0) (.slice none 0 0) (.slice none 0 0) (.slice none 0 0) (.slice none 0 0) := ⟨_, rfl⟩
  rw [← hw2] at hg2 hc2
  have hd2 := (hg2.block q (lt_of_block hd1) (fun e => hpq (Option.some.inj e))).trans hd1
  have hd3 := set_block hd2 0 (.int .i64 n)
  have hc3 : (w2.setCell ⟨q, 0, none⟩ (.int .i64 n)).heap[p]? = _ := (set_oth (fun e => hpq e.symm)).trans hc2
  have hk : ∀ k, k < w.heap.size → ¬ k = p → ¬ k = q → (w2.setCell ⟨q, 0, none⟩ (.int .i64 n)).heap[k]? = w.heap[k]? := fun k h1 h2 h3 => (set_oth h3).trans ((hg2.block k (Nat.lt_of_lt_of_le h1 hb1.size) (fun e => h2 (Option.some.inj e))).trans (hb1.block k h1))
  obtain ⟨r0, r1, r2, r3, r4, r5, r6⟩ := cells7 hc1
  obtain ⟨f0, f1, f2, f3, f4, f5, f6⟩ := fz7 hc1
  have k0' : w2.cell? ⟨q, 0, none⟩ = some y := by rw [Lib.cell_of_heap hd2]; rfl
  have e0' := Lib.frozen_of_heap hd2 0
  have k0 : (((((((w1.setCell ⟨p, 0, none⟩ (.int .i64 0)).setCell ⟨p, 1, none⟩ (.bool false)).setCell ⟨p, 2, none⟩ (.slice none 0 0)).setCell ⟨p, 3, none⟩ (.slice none 0 0)).setCell ⟨p, 4, none⟩ (.slice none 0 0)).setCell ⟨p, 5, none⟩ (.slice none 0 0)).setCell ⟨p, 6, none⟩ (.slice none 0 0)).cell? ⟨q, 0, none⟩ = some y := by rw [hw2] at k0'; exact k0'
  have e0 : (((((((w1.setCell ⟨p, 0, none⟩ (.int .i64 0)).setCell ⟨p, 1, none⟩ (.bool false)).setCell ⟨p, 2, none⟩ (.slice none 0 0)).setCell ⟨p, 3, none⟩ (.slice none 0 0)).setCell ⟨p, 4, none⟩ (.slice none 0 0)).setCell ⟨p, 5, none⟩ (.slice none 0 0)).setCell ⟨p, 6, none⟩ (.slice none 0 0)).frozen? ⟨q, 0, none⟩ = false := by rw [hw2] at e0'; exact e0'
  have HW2 := hide' hw2
  have HE := hide' (show w.heap.size ≤ (w2.setCell ⟨q, 0, none⟩ (.int .i64 n)).heap.size ∧ (w2.setCell ⟨q, 0, none⟩ (.int .i64 n)).os = w.os ∧ (w2.setCell ⟨q, 0, none⟩ (.int .i64 n)).tape = w.tape ∧ (w2.setCell ⟨q, 0, none⟩ (.int .i64 n)).output = w.output ∧ (∀ k, k < w.heap.size → ¬ k = p → ¬ k = q → (w2.setCell ⟨q, 0, none⟩ (.int .i64 n)).heap[k]? = w.heap[k]?) ∧ (w2.setCell ⟨q, 0, none⟩ (.int .i64 n)).heap[p]? = some (.cells zeroC 28 (0, 0)) ∧ (w2.setCell ⟨q, 0, none⟩ (.int .i64 n)).heap[q]? = some (.cells #[.int .i64 n] 29 (0, 0)) from
    ⟨Nat.le_trans hb1.size (Nat.le_trans hg2.size (Nat.le_of_eq (by simp))), hg2.os.trans hb1.os, hg2.tape.trans hb1.tape, hg2.output.trans hb1.output, hk, hc3, hd3⟩)
  clear hc hd hc1 hd1 hg2 hc2 hw2 hd2 hd3 hc3 hk hb1 HH k0' e0' hpq
  dsimp only
  go_wp2
  have hE2 := HE.out
  rw [HW2.out] at hE2
  generalize hX : (((((((w1.setCell ⟨p, 0, none⟩ (.int .i64 0)).setCell ⟨p, 1, none⟩ (.bool false)).setCell ⟨p, 2, none⟩ (.slice none 0 0)).setCell ⟨p, 3, none⟩ (.slice none 0 0)).setCell ⟨p, 4, none⟩ (.slice none 0 0)).setCell ⟨p, 5, none⟩ (.slice none 0 0)).setCell ⟨p, 6, none⟩ (.slice none 0 0)).setCell ⟨q, 0, none⟩ (.int .i64 n) = X
  have hE3 : w.heap.size ≤ X.heap.size ∧ X.os = w.os ∧ X.tape = w.tape ∧ X.output = w.output ∧ (∀ k, k < w.heap.size → ¬ k = p → ¬ k = q → X.heap[k]? = w.heap[k]?) ∧ X.heap[p]? = some (.cells zeroC 28 (0, 0)) ∧ X.heap[q]? = some (.cells #[.int .i64 n] 29 (0, 0)) := by rw [← hX]; exact hE2
  clear hE2 hX HE HW2 k0 e0 r0 r1 r2 r3 r4 r5 r6 f0 f1 f2 f3 f4 f5 f6
  simp [bodyPostS, results, Tryz.results16]
  exact hE3
end Go.Proofs.YtcemlhfodpelaaaGreatDoor
