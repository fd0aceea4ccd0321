/- The law's Do, whatever the call. -/
import Derived.Test.YtillechackcbpaaDo
namespace Go.Proofs.Ytillechackcbpaa
open Go.RowKit Go.Maps

set_option maxRecDepth 100000 in
set_option maxHeartbeats 4000000 in
theorem do_exp (A : Nat) (m : Option Nat) (R : Nat) (v : Value) (L : Vs) (x : Ov) (w : World) (h : Both w A m R v L) (hn : x.nm.length ≤ 1000000) (hk : x.kind.tmod 5 = 3) :
    Calls Try.prog 12 #[.pointer (some ⟨A, 0, none⟩), .pointer (some ⟨R, 0, none⟩), ovV x] w fun r w' => r = .returned (.bool true) ∧ DoR w w' A m R v L x.vl.length := by
  obtain ⟨kd, nm, vl, fl, og⟩ := x
  dsimp only at hn hk ⊢
  dsimp only [ovV]
  obtain ⟨W, hW⟩ : ∃ W, W = w.alloc (.cells #[.int .i64 kd, .string (mk nm), .string (mk vl), .int .i64 fl, .int .i64 og] 34) := ⟨_, rfl⟩
  have hB : Below w.heap.size w W := by rw [hW]; exact below_alloc (Below.refl _ _) (Nat.le_refl _) _
  have hbW : Both W A m R v L := h.below hB
  have hX : Ox W w.heap.size ⟨kd, nm, vl, fl, og⟩ := by rw [hW]; exact heap_alloc_new w _
  have q1 := exp_any A m L nm fl W hbW.st hn
  have HBW := hide' hbW
  have HX := hide' hX
  have HB := hide' hB
  rw [hW] at q1
  clear h hX hB hbW
  go_enter Try.func12, Try.ntmps12
  go_wp2_with fail
  refine q1.mono ?_
  rintro r w1 ⟨rfl, m', hc1⟩
  rw [← hW] at hc1
  have hX1 := HX.out.kb (Chg.kb HBW.out.st hc1)
  have hR1 := (Chg.kb HBW.out.st hc1).rf HBW.out.rf
  have q2 := rexp_any R v L nm fl w1 hR1
  have x1 := hX1.c1
  have x3 := hX1.c3
  have HC1 := hide' hc1
  clear hc1 hX1 q1 hW
  go_wp2_with fail
  refine q2.mono ?_
  rintro r w2 ⟨rfl, v', hc2⟩
  have HEND := hide' (BChg.after HB.out (both_step HBW.out HC1.out hc2))
  clear hc2 q2
  go_wp2
  go_ret
  exact ⟨rfl, m', v', _, HEND.out, fun T hT => (hT.exp nm fl).mono (by omega)⟩
set_option maxRecDepth 100000 in
set_option maxHeartbeats 4000000 in
theorem do_not (A : Nat) (m : Option Nat) (R : Nat) (v : Value) (L : Vs) (x : Ov) (w : World) (h : Both w A m R v L) (k0 : ¬ x.kind.tmod 5 = 0) (k1 : ¬ x.kind.tmod 5 = 1) (k2 : ¬ x.kind.tmod 5 = 2) (k3 : ¬ x.kind.tmod 5 = 3) :
    Calls Try.prog 12 #[.pointer (some ⟨A, 0, none⟩), .pointer (some ⟨R, 0, none⟩), ovV x] w fun r w' => r = .returned (.bool true) ∧ DoR w w' A m R v L x.vl.length := by
  obtain ⟨kd, nm, vl, fl, og⟩ := x
  dsimp only at k0 k1 k2 k3 ⊢
  dsimp only [ovV]
  have hE : Hid (DoR w (w.alloc (.cells #[.int .i64 kd, .string (mk nm), .string (mk vl), .int .i64 fl, .int .i64 og] 34)) A m R v L vl.length) :=
    ⟨m, v, L, BChg.same h (below_alloc (Below.refl _ _) (Nat.le_refl _) _), fun T hT => hT.mono (by omega)⟩
  have b0 : (kd.tmod 5 == 0) = false := beq_eq_false_iff_ne.2 k0
  have b1 : (kd.tmod 5 == 1) = false := beq_eq_false_iff_ne.2 k1
  have b2 : (kd.tmod 5 == 2) = false := beq_eq_false_iff_ne.2 k2
  have b3 : (kd.tmod 5 == 3) = false := beq_eq_false_iff_ne.2 k3
  clear h
  go_enter Try.func12, Try.ntmps12
  go_wp2
  go_ret
  exact ⟨rfl, hE.out⟩
theorem do_any (A : Nat) (m : Option Nat) (R : Nat) (v : Value) (L : Vs) (x : Ov) (w : World) (h : Both w A m R v L) (hn : x.nm.length ≤ 1000000) (hl : x.vl.length ≤ 1000000) (hg : (getV L x.nm).value.length + 1 + x.vl.length ≤ 1000000) :
    Calls Try.prog 12 #[.pointer (some ⟨A, 0, none⟩), .pointer (some ⟨R, 0, none⟩), ovV x] w fun r w' => r = .returned (.bool true) ∧ DoR w w' A m R v L x.vl.length := by
  by_cases k0 : x.kind.tmod 5 = 0
  · exact do_set A m R v L x w h hn hl k0
  by_cases k1 : x.kind.tmod 5 = 1
  · exact do_app A m R v L x w h hn hl hg k1
  by_cases k2 : x.kind.tmod 5 = 2
  · exact do_und A m R v L x w h hn hl k2
  by_cases k3 : x.kind.tmod 5 = 3
  · exact do_exp A m R v L x w h hn k3
  exact do_not A m R v L x w h k0 k1 k2 k3
end Go.Proofs.Ytillechackcbpaa
