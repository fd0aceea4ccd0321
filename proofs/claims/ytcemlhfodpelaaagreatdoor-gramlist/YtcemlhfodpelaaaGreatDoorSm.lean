/- The contracts of the lexer's small methods: inside, follows, passEscaped, enter, leave. -/
import Derived.Test.YtcemlhfodpelaaaGreatDoorPush
namespace Go.Proofs.YtcemlhfodpelaaaGreatDoor
open Go.RowKit
attribute [local go_sem] run_store_nilFunc run_store_func

theorem inside_end (w : World) (A B : Nat) (T : ByteArray) (l : LS) (tv ov : Value) (h : LexAt w A B T l tv ov) (hp : l.p = T.size) :
    Calls Tryz.prog 136 #[.pointer (some ⟨A, 0, none⟩)] w fun e w' => e = panicsN 30 ∧ Below w.heap.size w w' := by
  have k0 := h.c0
  have k2 := h.c2
  rw [hp] at k2
  clear h hp
  go_enter Tryz.func136, Tryz.ntmps136
  go_wp2
  go_quiet (fail)
  go_wp2
  exact ⟨rfl, rfl, below_drewn nq⟩
theorem drewn_two (w : World) (a b : Nat) : (w.drewN a).drewN b = w.drewN (a + b) := by simp
theorem inside_at (w : World) (A B : Nat) (T : ByteArray) (l : LS) (tv ov : Value) (h : LexAt w A B T l tv ov) (hp : l.p < T.size) :
    Calls Tryz.prog 136 #[.pointer (some ⟨A, 0, none⟩)] w fun e w' => e = .returned (.int .u8 (T[l.p]).toNat) ∧ ∃ n, w' = w.drewN n := by
  have k0 := h.c0
  have k2 := h.c2
  have hne : ((l.p : Int) == (T.size : Int)) = false := by simp; omega
  clear h
  go_enter Tryz.func136, Tryz.ntmps136
  go_wp2
  go_quiet (fail)
  go_wp2
  go_quiet (fail)
  go_wp2
  go_ret
  exact ⟨rfl, _, drewn_two _ _ _⟩
theorem foll_no (T : ByteArray) (p : Nat) (c : UInt8) (h : ¬ p + 1 < T.size) : foll (tl T) p c = false := by
  unfold foll
  rw [tl_len]
  simp [h]
theorem foll_at (T : ByteArray) (p q : Nat) (c : UInt8) (hq : q = p + 1) (h : q < T.size) : foll (tl T) p c = (T[q] == c) := by
  subst hq
  unfold foll
  rw [tl_len, getD_at T _ h]
  simp [h]
set_option maxHeartbeats 1000000 in
theorem follows_any (w : World) (A B : Nat) (T : ByteArray) (l : LS) (tv ov : Value) (c : UInt8) (h : LexAt w A B T l tv ov) :
    Calls Tryz.prog 70 #[.pointer (some ⟨A, 0, none⟩), .int .u8 c.toNat] w fun e w' => e = .returned (.bool (foll (tl T) l.p c)) ∧ ∃ n, w' = w.drewN n := by
  have k0 := h.c0
  have k2 := h.c2
  have hsz := h.size
  have hpn := h.pn
  clear h
  by_cases hp : l.p + 1 < T.size
  · obtain ⟨q, hq⟩ : ∃ q, q = l.p + 1 := ⟨_, rfl⟩
    have hp' : q < T.size := by omega
    rw [foll_at T _ q c hq hp']
    have hw : IntKind.i64.wrap ((l.p : Int) + 1) = (q : Int) := by rw [IntKind.wrap_i64]; omega
    have hd : decide (q < T.size) = true := by simp; omega
    have hd' : decide ((q : Int) < (T.size : Int)) = true := by simp; omega
    clear hq hp
    by_cases hc : T[q] = c
    · have y := beq_yes T[q] c c.toNat rfl hc
      have hcc : (T[q] == c) = true := by simp [hc]
      rw [hcc]
      clear hc
      go_enter Tryz.func70, Tryz.ntmps70
      go_wp2
      go_quiet (fail)
      go_wp2
      go_ret
      exact ⟨rfl, _, rfl⟩
    · have y := beq_no T[q] c c.toNat rfl hc
      have hcc : (T[q] == c) = false := by simp [hc]
      rw [hcc]
      clear hc
      go_enter Tryz.func70, Tryz.ntmps70
      go_wp2
      go_quiet (fail)
      go_wp2
      go_ret
      exact ⟨rfl, _, rfl⟩
  · rw [foll_no T _ c hp]
    obtain ⟨q, hq⟩ : ∃ q, q = l.p + 1 := ⟨_, rfl⟩
    have hw : IntKind.i64.wrap ((l.p : Int) + 1) = (q : Int) := by rw [IntKind.wrap_i64]; omega
    have hd : decide (q < T.size) = false := by simp; omega
    have hd' : decide ((q : Int) < (T.size : Int)) = false := by simp; omega
    clear hq hp
    go_enter Tryz.func70, Tryz.ntmps70
    go_wp2
    go_quiet (fail)
    go_wp2
    go_ret
    exact ⟨rfl, _, rfl⟩
set_option maxHeartbeats 1000000 in
theorem esc_any (w : World) (A B : Nat) (T : ByteArray) (l : LS) (tv ov : Value) (h : LexAt w A B T l tv ov) :
    Calls Tryz.prog 115 #[.pointer (some ⟨A, 0, none⟩)] w fun e w' => e = .returned (.tuple #[]) ∧ Below B w w' ∧ LexAt w' A B T (atP l (min (l.p + 2) T.size)) tv ov := by
  have k0 := h.c0
  have k2 := h.c2
  have f2 := h.fz 2
  have hsz := h.size
  have hpn := h.pn
  have hfr := h.frp
  by_cases hq : l.p + 2 ≤ T.size
  · rw [Nat.min_eq_left hq]
    have h1 := (h.setP (l.p + 2) (by omega) hq).drew 1
    have h2 := (below_set h 2 (.int .i64 (l.p + 2 : Nat))).trans (below_drewn (B := B) 1)
    have e : Value.int .i64 ((l.p + 2 : Nat) : Int) = .int .i64 ((l.p : Int) + 2) := by simp
    rw [e] at h1 h2
    have HE := hide' h1
    have HB := hide' h2
    have hi : (l.p : Int) + 2 ≤ (T.size : Int) := by omega
    clear h h1 h2
    go_enter Tryz.func115, Tryz.ntmps115
    go_wp2
    go_region
    go_wp2
    go_end0
    exact ⟨rfl, HB.out, HE.out⟩
  · rw [Nat.min_eq_right (by omega)]
    have h1 := (h.setP T.size (by omega) (Nat.le_refl _)).drew 1
    have h2 := (below_set h 2 (.int .i64 (T.size : Nat))).trans (below_drewn (B := B) 1)
    have HE := hide' h1
    have HB := hide' h2
    have hi : ¬ (l.p : Int) + 2 ≤ (T.size : Int) := by omega
    clear h h1 h2
    go_enter Tryz.func115, Tryz.ntmps115
    go_wp2
    go_region
    go_wp2
    go_end0
    exact ⟨rfl, HB.out, HE.out⟩
set_option maxHeartbeats 1000000 in
theorem enter_room (w : World) (A B : Nat) (T : ByteArray) (l : LS) (tv ov : Value) (m : ByteArray) (s b : St) (h : LexAt w A B T l tv ov) (hf : l.op.length < 60) (hm : l.p + m.size ≤ T.size) :
    Calls Tryz.prog 116 #[.pointer (some ⟨A, 0, none⟩), .string m, fnV s, fnV b] w fun e w' => e = .returned (fnV s) ∧ Below B w w' ∧ ∃ ov', LexAt w' A B T ⟨l.fr, l.p + m.size, l.tk, l.op ++ [b]⟩ tv ov' := by
  have q := opush_room w A B T l tv ov b h hf
  have hsz := h.size
  have hpn := h.pn
  have hfr := h.frp
  obtain ⟨q0, hq⟩ : ∃ q, q = l.p + m.size := ⟨_, rfl⟩
  rw [← hq] at hm ⊢
  clear h hf
  go_enter Tryz.func116, Tryz.ntmps116
  go_wp2_with fail
  refine q.mono ?_
  rintro e w1 ⟨rfl, hb1, ov', h1⟩
  have k2 := h1.c2
  have f2 := h1.fz 2
  have HE := hide' (h1.setP q0 (by simp only; omega) hm)
  have HB := hide' (hb1.trans (below_set h1 2 (.int .i64 q0)))
  clear h1 hb1 q
  have hw : IntKind.i64.wrap ((l.p : Int) + (m.size : Int)) = (q0 : Int) := by rw [IntKind.wrap_i64]; omega
  clear hm hq
  dsimp only at k2 ⊢
  go_wp2
  go_ret
  exact ⟨rfl, HB.out, _, HE.out⟩
theorem enter_full (w : World) (A B : Nat) (T : ByteArray) (l : LS) (tv ov : Value) (m : ByteArray) (s b : St) (h : LexAt w A B T l tv ov) (hf : l.op.length = 60) :
    Calls Tryz.prog 116 #[.pointer (some ⟨A, 0, none⟩), .string m, fnV s, fnV b] w fun e w' => e = panicsN 42 ∧ Below w.heap.size w w' := by
  have q := opush_full w A B T l tv ov (fnV b) h hf
  clear h hf
  go_enter Tryz.func116, Tryz.ntmps116
  go_wp2_with fail
  refine q.mono ?_
  rintro e w1 ⟨rfl, hb1⟩
  exact ⟨rfl, rfl, hb1⟩
set_option maxHeartbeats 1000000 in
theorem leave_any (w : World) (A B : Nat) (T : ByteArray) (l : LS) (tv ov : Value) (os : List St) (b : St) (h : LexAt w A B T l tv ov) (hf : l.op = os ++ [b]) (hp : l.p < T.size) :
    Calls Tryz.prog 137 #[.pointer (some ⟨A, 0, none⟩)] w fun e w' => e = .returned (fnV b) ∧ Below B w w' ∧ ∃ ov', LexAt w' A B T ⟨l.fr, l.p + 1, l.tk, os⟩ tv ov' := by
  have k2 := h.c2
  have f2 := h.fz 2
  have hsz := h.size
  have hfr := h.frp
  have h1 := h.setP (l.p + 1) (by omega) (by omega)
  have hb1 := below_set h 2 (.int .i64 (l.p + 1 : Nat))
  have q := pop_any _ A B T _ tv ov os b h1 hf
  clear h h1 hf
  obtain ⟨q1, hq⟩ : ∃ q, q = l.p + 1 := ⟨_, rfl⟩
  dsimp only [atP] at q
  rw [← hq] at q hb1 ⊢
  have hw : IntKind.i64.wrap ((l.p : Int) + 1) = (q1 : Int) := by rw [IntKind.wrap_i64]; omega
  clear hq
  go_enter Tryz.func137, Tryz.ntmps137
  go_wp2_with fail
  refine q.mono ?_
  rintro e w1 ⟨rfl, hb2, ov', h2⟩
  go_wp2
  go_ret
  exact ⟨rfl, hb1.trans hb2, _, h2⟩
end Go.Proofs.YtcemlhfodpelaaaGreatDoor
