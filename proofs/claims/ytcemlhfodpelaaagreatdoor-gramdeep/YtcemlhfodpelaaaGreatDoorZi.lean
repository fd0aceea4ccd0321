/- The contracts of the lexer's states within quotes and brackets. The contracts of the lexer's states between tokens and in a word. -/
import Derived.Test.YtcemlhfodpelaaaGreatDoorPa
namespace Go.Proofs.YtcemlhfodpelaaaGreatDoor
open Go.RowKit Go.Shelf
attribute [local go_sem] run_store_nilFunc run_store_func

theorem leave_cases (l : LS) (h : leaveO l ≠ .stuck) : ∃ os b, l.op = os ++ [b] ∧ leaveO l = .next b ⟨l.fr, l.p + 1, l.tk, os⟩ := by
  unfold leaveO at h ⊢
  cases hg : l.op.getLast? with
  | none => rw [hg] at h; exact absurd rfl h
  | some b =>
    obtain ⟨ys, hy⟩ := List.getLast?_eq_some_iff.1 hg
    refine ⟨ys, b, hy, ?_⟩
    simp [hy]
set_option maxHeartbeats 1000000 in
theorem db_end (w : World) (A B : Nat) (T : ByteArray) (l : LS) (tv ov : Value) (h : LexAt w A B T l tv ov) (hp : l.p = T.size) :
    Calls Tryz.prog 117 #[.pointer (some ⟨A, 0, none⟩)] w (StepAt w A B T (.bad 30)) := by
  have H := hide' h
  clear h
  go_enter Tryz.func117, Tryz.ntmps117
  go_wp2_with fail
  refine (inside_end _ A B T l tv ov H.out hp).mono ?_
  rintro e w1 ⟨rfl, hb1⟩
  exact ⟨rfl, hb1.mono H.out.lowb, rfl⟩
set_option maxHeartbeats 1000000 in
theorem cm_end (w : World) (A B : Nat) (T : ByteArray) (l : LS) (tv ov : Value) (h : LexAt w A B T l tv ov) (hp : l.p = T.size) :
    Calls Tryz.prog 119 #[.pointer (some ⟨A, 0, none⟩)] w (StepAt w A B T (.bad 30)) := by
  have H := hide' h
  clear h
  go_enter Tryz.func119, Tryz.ntmps119
  go_wp2_with fail
  refine (inside_end _ A B T l tv ov H.out hp).mono ?_
  rintro e w1 ⟨rfl, hb1⟩
  exact ⟨rfl, hb1.mono H.out.lowb, rfl⟩
set_option maxHeartbeats 1000000 in
theorem br_end (w : World) (A B : Nat) (T : ByteArray) (l : LS) (tv ov : Value) (h : LexAt w A B T l tv ov) (hp : l.p = T.size) :
    Calls Tryz.prog 120 #[.pointer (some ⟨A, 0, none⟩)] w (StepAt w A B T (.bad 30)) := by
  have H := hide' h
  clear h
  go_enter Tryz.func120, Tryz.ntmps120
  go_wp2_with fail
  refine (inside_end _ A B T l tv ov H.out hp).mono ?_
  rintro e w1 ⟨rfl, hb1⟩
  exact ⟨rfl, hb1.mono H.out.lowb, rfl⟩
set_option maxHeartbeats 1000000 in
theorem bq_end (w : World) (A B : Nat) (T : ByteArray) (l : LS) (tv ov : Value) (h : LexAt w A B T l tv ov) (hp : l.p = T.size) :
    Calls Tryz.prog 118 #[.pointer (some ⟨A, 0, none⟩)] w (StepAt w A B T (.bad 30)) := by
  have H := hide' h
  clear h
  go_enter Tryz.func118, Tryz.ntmps118
  go_wp2_with fail
  refine (inside_end _ A B T l tv ov H.out hp).mono ?_
  rintro e w1 ⟨rfl, hb1⟩
  exact ⟨rfl, hb1.mono H.out.lowb, rfl⟩
set_option maxHeartbeats 1000000 in
theorem db_leave (w : World) (A B : Nat) (T : ByteArray) (l : LS) (tv ov : Value) (h : LexAt w A B T l tv ov) (hp : l.p < T.size)  (hy : T[l.p] = 34) (os : List St) (b : St) (hop : l.op = os ++ [b]) :
    Calls Tryz.prog 117 #[.pointer (some ⟨A, 0, none⟩)] w (StepAt w A B T (.next b ⟨l.fr, l.p + 1, l.tk, os⟩)) := by
  have H := hide' h
  have y34 := beq_yes T[l.p] 34 34 rfl hy
  clear hy
  clear h
  go_enter Tryz.func117, Tryz.ntmps117
  go_wp2_with fail
  refine (inside_at _ A B T l tv ov H.out hp).mono ?_
  rintro e w1 ⟨rfl, n1, rfl⟩
  have HD := H.out.drew n1
  have hbd := below_drewn (w := w) (B := B) n1
  go_wp2_with fail
  refine (leave_any _ A B T l tv ov os b HD hop hp).mono ?_
  rintro e w2 ⟨rfl, hb2, ov', h2⟩
  have HB := hide' (hbd.trans hb2)
  clear hb2 HD hbd
  go_wp2_with fail
  go_ret
  exact .next HB.out h2
set_option maxHeartbeats 1000000 in
theorem db_byte (w : World) (A B : Nat) (T : ByteArray) (l : LS) (tv ov : Value) (h : LexAt w A B T l tv ov) (hp : l.p < T.size) (h34 : ¬ T[l.p] = 34) (hy : T[l.p] = 39) :
    Calls Tryz.prog 117 #[.pointer (some ⟨A, 0, none⟩)] w (StepAt w A B T (.next .db (atP l (l.p + 1)))) := by
  have H := hide' h
  have n34 := beq_no T[l.p] 34 34 rfl h34
  clear h34
  have y39 := beq_yes T[l.p] 39 39 rfl hy
  clear hy
  have f2 := h.fz 2
  have hfr := h.frp
  have hsz := h.size
  have k2 := h.c2
  obtain ⟨q0, hq⟩ : ∃ q, q = l.p + 1 := ⟨_, rfl⟩
  rw [← hq]
  have hw : IntKind.i64.wrap ((l.p : Int) + 1) = (q0 : Int) := by rw [IntKind.wrap_i64]; omega
  have hq1 : l.fr ≤ q0 := by omega
  have hq2 : q0 ≤ T.size := by omega
  clear hq
  clear h
  go_enter Tryz.func117, Tryz.ntmps117
  go_wp2_with fail
  refine (inside_at _ A B T l tv ov H.out hp).mono ?_
  rintro e w1 ⟨rfl, n1, rfl⟩
  have HD := H.out.drew n1
  have hbd := below_drewn (w := w) (B := B) n1
  have HE := hide' (HD.setP q0 hq1 hq2)
  have HB := hide' (hbd.trans (below_set HD 2 (.int .i64 q0)))
  clear HD hbd
  go_wp2_with fail
  go_ret
  exact .next HB.out HE.out
set_option maxHeartbeats 1000000 in
theorem db_pass (w : World) (A B : Nat) (T : ByteArray) (l : LS) (tv ov : Value) (h : LexAt w A B T l tv ov) (hp : l.p < T.size) (h34 : ¬ T[l.p] = 34) (h39 : ¬ T[l.p] = 39) (hst : passO (tl T) .db l ≠ .stuck) :
    Calls Tryz.prog 117 #[.pointer (some ⟨A, 0, none⟩)] w (StepAt w A B T (passO (tl T) .db l)) := by
  have H := hide' h
  have n34 := beq_no T[l.p] 34 34 rfl h34
  have n39 := beq_no T[l.p] 39 39 rfl h39
  clear h34 h39
  have qp := fun w h => pass_any .db w A B T l tv ov h hp
  generalize passO (tl T) .db l = o at qp hst ⊢
  clear h
  go_enter Tryz.func117, Tryz.ntmps117
  go_wp2_with fail
  refine (inside_at _ A B T l tv ov H.out hp).mono ?_
  rintro e w1 ⟨rfl, n1, rfl⟩
  have HD := H.out.drew n1
  have hbd := below_drewn (w := w) (B := B) n1
  go_wp2_with fail
  refine (qp _ HD).mono ?_
  rintro e w2 ⟨hb2, h2⟩
  have HB := hide' (hbd.trans hb2)
  clear hb2 HD hbd
  cases o with
  | next s' l' =>
    obtain ⟨rfl, h3⟩ := h2
    go_wp2_with fail
    go_ret
    exact ⟨HB.out, rfl, h3⟩
  | done l' =>
    obtain ⟨rfl, h3⟩ := h2
    go_wp2_with fail
    go_ret
    exact ⟨HB.out, rfl, h3⟩
  | bad n =>
    obtain rfl := h2
    exact ⟨rfl, HB.out, rfl⟩
  | stuck => exact absurd rfl hst
set_option maxHeartbeats 1000000 in
theorem cm_enter (w : World) (A B : Nat) (T : ByteArray) (l : LS) (tv ov : Value) (h : LexAt w A B T l tv ov) (hp : l.p < T.size)  (hy : T[l.p] = 40) (hf : l.op.length < 60) :
    Calls Tryz.prog 119 #[.pointer (some ⟨A, 0, none⟩)] w (StepAt w A B T (.next .cm ⟨l.fr, l.p + 1, l.tk, l.op ++ [.cm]⟩)) := by
  have H := hide' h
  have y40 := beq_yes T[l.p] 40 40 rfl hy
  clear hy
  clear h
  go_enter Tryz.func119, Tryz.ntmps119
  go_wp2_with fail
  refine (inside_at _ A B T l tv ov H.out hp).mono ?_
  rintro e w1 ⟨rfl, n1, rfl⟩
  have HD := H.out.drew n1
  have hbd := below_drewn (w := w) (B := B) n1
  go_wp2_with fail
  refine (enter_room _ A B T l tv ov ⟨#[40]⟩ .cm .cm HD hf (by have : (⟨#[40]⟩ : ByteArray).size = 1 := rfl; omega)).mono ?_
  rintro e w2 ⟨rfl, hb2, ov', h2⟩
  have HB := hide' (hbd.trans hb2)
  clear hb2 HD hbd
  go_wp2_with fail
  go_ret
  exact .next HB.out h2
set_option maxHeartbeats 1000000 in
theorem cm_full (w : World) (A B : Nat) (T : ByteArray) (l : LS) (tv ov : Value) (h : LexAt w A B T l tv ov) (hp : l.p < T.size)  (hy : T[l.p] = 40) (hf : l.op.length = 60) :
    Calls Tryz.prog 119 #[.pointer (some ⟨A, 0, none⟩)] w (StepAt w A B T (.bad 42)) := by
  have H := hide' h
  have y40 := beq_yes T[l.p] 40 40 rfl hy
  clear hy
  clear h
  go_enter Tryz.func119, Tryz.ntmps119
  go_wp2_with fail
  refine (inside_at _ A B T l tv ov H.out hp).mono ?_
  rintro e w1 ⟨rfl, n1, rfl⟩
  have HD := H.out.drew n1
  have hbd := below_drewn (w := w) (B := B) n1
  go_wp2_with fail
  refine (enter_full _ A B T l tv ov ⟨#[40]⟩ .cm .cm HD hf).mono ?_
  rintro e w2 ⟨rfl, hb2⟩
  exact ⟨rfl, hbd.trans (hb2.mono HD.lowb), rfl⟩
set_option maxHeartbeats 1000000 in
theorem cm_leave (w : World) (A B : Nat) (T : ByteArray) (l : LS) (tv ov : Value) (h : LexAt w A B T l tv ov) (hp : l.p < T.size) (h40 : ¬ T[l.p] = 40) (hy : T[l.p] = 41) (os : List St) (b : St) (hop : l.op = os ++ [b]) :
    Calls Tryz.prog 119 #[.pointer (some ⟨A, 0, none⟩)] w (StepAt w A B T (.next b ⟨l.fr, l.p + 1, l.tk, os⟩)) := by
  have H := hide' h
  have n40 := beq_no T[l.p] 40 40 rfl h40
  clear h40
  have y41 := beq_yes T[l.p] 41 41 rfl hy
  clear hy
  clear h
  go_enter Tryz.func119, Tryz.ntmps119
  go_wp2_with fail
  refine (inside_at _ A B T l tv ov H.out hp).mono ?_
  rintro e w1 ⟨rfl, n1, rfl⟩
  have HD := H.out.drew n1
  have hbd := below_drewn (w := w) (B := B) n1
  go_wp2_with fail
  refine (leave_any _ A B T l tv ov os b HD hop hp).mono ?_
  rintro e w2 ⟨rfl, hb2, ov', h2⟩
  have HB := hide' (hbd.trans hb2)
  clear hb2 HD hbd
  go_wp2_with fail
  go_ret
  exact .next HB.out h2
set_option maxHeartbeats 1000000 in
theorem cm_pass (w : World) (A B : Nat) (T : ByteArray) (l : LS) (tv ov : Value) (h : LexAt w A B T l tv ov) (hp : l.p < T.size) (h40 : ¬ T[l.p] = 40) (h41 : ¬ T[l.p] = 41) (hst : passO (tl T) .cm l ≠ .stuck) :
    Calls Tryz.prog 119 #[.pointer (some ⟨A, 0, none⟩)] w (StepAt w A B T (passO (tl T) .cm l)) := by
  have H := hide' h
  have n40 := beq_no T[l.p] 40 40 rfl h40
  have n41 := beq_no T[l.p] 41 41 rfl h41
  clear h40 h41
  have qp := fun w h => pass_any .cm w A B T l tv ov h hp
  generalize passO (tl T) .cm l = o at qp hst ⊢
  clear h
  go_enter Tryz.func119, Tryz.ntmps119
  go_wp2_with fail
  refine (inside_at _ A B T l tv ov H.out hp).mono ?_
  rintro e w1 ⟨rfl, n1, rfl⟩
  have HD := H.out.drew n1
  have hbd := below_drewn (w := w) (B := B) n1
  go_wp2_with fail
  refine (qp _ HD).mono ?_
  rintro e w2 ⟨hb2, h2⟩
  have HB := hide' (hbd.trans hb2)
  clear hb2 HD hbd
  cases o with
  | next s' l' =>
    obtain ⟨rfl, h3⟩ := h2
    go_wp2_with fail
    go_ret
    exact ⟨HB.out, rfl, h3⟩
  | done l' =>
    obtain ⟨rfl, h3⟩ := h2
    go_wp2_with fail
    go_ret
    exact ⟨HB.out, rfl, h3⟩
  | bad n =>
    obtain rfl := h2
    exact ⟨rfl, HB.out, rfl⟩
  | stuck => exact absurd rfl hst
set_option maxHeartbeats 1000000 in
theorem br_leave (w : World) (A B : Nat) (T : ByteArray) (l : LS) (tv ov : Value) (h : LexAt w A B T l tv ov) (hp : l.p < T.size)  (hy : T[l.p] = 125) (os : List St) (b : St) (hop : l.op = os ++ [b]) :
    Calls Tryz.prog 120 #[.pointer (some ⟨A, 0, none⟩)] w (StepAt w A B T (.next b ⟨l.fr, l.p + 1, l.tk, os⟩)) := by
  have H := hide' h
  have y125 := beq_yes T[l.p] 125 125 rfl hy
  clear hy
  clear h
  go_enter Tryz.func120, Tryz.ntmps120
  go_wp2_with fail
  refine (inside_at _ A B T l tv ov H.out hp).mono ?_
  rintro e w1 ⟨rfl, n1, rfl⟩
  have HD := H.out.drew n1
  have hbd := below_drewn (w := w) (B := B) n1
  go_wp2_with fail
  refine (leave_any _ A B T l tv ov os b HD hop hp).mono ?_
  rintro e w2 ⟨rfl, hb2, ov', h2⟩
  have HB := hide' (hbd.trans hb2)
  clear hb2 HD hbd
  go_wp2_with fail
  go_ret
  exact .next HB.out h2
set_option maxHeartbeats 1000000 in
theorem br_pass (w : World) (A B : Nat) (T : ByteArray) (l : LS) (tv ov : Value) (h : LexAt w A B T l tv ov) (hp : l.p < T.size) (h125 : ¬ T[l.p] = 125) (hst : passO (tl T) .br l ≠ .stuck) :
    Calls Tryz.prog 120 #[.pointer (some ⟨A, 0, none⟩)] w (StepAt w A B T (passO (tl T) .br l)) := by
  have H := hide' h
  have n125 := beq_no T[l.p] 125 125 rfl h125
  clear h125
  have qp := fun w h => pass_any .br w A B T l tv ov h hp
  generalize passO (tl T) .br l = o at qp hst ⊢
  clear h
  go_enter Tryz.func120, Tryz.ntmps120
  go_wp2_with fail
  refine (inside_at _ A B T l tv ov H.out hp).mono ?_
  rintro e w1 ⟨rfl, n1, rfl⟩
  have HD := H.out.drew n1
  have hbd := below_drewn (w := w) (B := B) n1
  go_wp2_with fail
  refine (qp _ HD).mono ?_
  rintro e w2 ⟨hb2, h2⟩
  have HB := hide' (hbd.trans hb2)
  clear hb2 HD hbd
  cases o with
  | next s' l' =>
    obtain ⟨rfl, h3⟩ := h2
    go_wp2_with fail
    go_ret
    exact ⟨HB.out, rfl, h3⟩
  | done l' =>
    obtain ⟨rfl, h3⟩ := h2
    go_wp2_with fail
    go_ret
    exact ⟨HB.out, rfl, h3⟩
  | bad n =>
    obtain rfl := h2
    exact ⟨rfl, HB.out, rfl⟩
  | stuck => exact absurd rfl hst
set_option maxHeartbeats 1000000 in
theorem bq_leave (w : World) (A B : Nat) (T : ByteArray) (l : LS) (tv ov : Value) (h : LexAt w A B T l tv ov) (hp : l.p < T.size)  (hy : T[l.p] = 96) (os : List St) (b : St) (hop : l.op = os ++ [b]) :
    Calls Tryz.prog 118 #[.pointer (some ⟨A, 0, none⟩)] w (StepAt w A B T (.next b ⟨l.fr, l.p + 1, l.tk, os⟩)) := by
  have H := hide' h
  have y96 := beq_yes T[l.p] 96 96 rfl hy
  clear hy
  clear h
  go_enter Tryz.func118, Tryz.ntmps118
  go_wp2_with fail
  refine (inside_at _ A B T l tv ov H.out hp).mono ?_
  rintro e w1 ⟨rfl, n1, rfl⟩
  have HD := H.out.drew n1
  have hbd := below_drewn (w := w) (B := B) n1
  go_wp2_with fail
  refine (leave_any _ A B T l tv ov os b HD hop hp).mono ?_
  rintro e w2 ⟨rfl, hb2, ov', h2⟩
  have HB := hide' (hbd.trans hb2)
  clear hb2 HD hbd
  go_wp2_with fail
  go_ret
  exact .next HB.out h2
set_option maxHeartbeats 1000000 in
theorem bq_esc (w : World) (A B : Nat) (T : ByteArray) (l : LS) (tv ov : Value) (h : LexAt w A B T l tv ov) (hp : l.p < T.size) (h96 : ¬ T[l.p] = 96) (hy : T[l.p] = 92) :
    Calls Tryz.prog 118 #[.pointer (some ⟨A, 0, none⟩)] w (StepAt w A B T (.next .bq (atP l (min (l.p + 2) T.size)))) := by
  have H := hide' h
  have n96 := beq_no T[l.p] 96 96 rfl h96
  clear h96
  have y92 := beq_yes T[l.p] 92 92 rfl hy
  clear hy
  clear h
  go_enter Tryz.func118, Tryz.ntmps118
  go_wp2_with fail
  refine (inside_at _ A B T l tv ov H.out hp).mono ?_
  rintro e w1 ⟨rfl, n1, rfl⟩
  have HD := H.out.drew n1
  have hbd := below_drewn (w := w) (B := B) n1
  go_wp2_with fail
  refine (esc_any _ A B T l tv ov HD).mono ?_
  rintro e w2 ⟨rfl, hb2, h2⟩
  have HB := hide' (hbd.trans hb2)
  clear hb2 HD hbd
  go_wp2_with fail
  go_ret
  exact .next HB.out h2
set_option maxHeartbeats 1000000 in
theorem bq_byte (w : World) (A B : Nat) (T : ByteArray) (l : LS) (tv ov : Value) (h : LexAt w A B T l tv ov) (hp : l.p < T.size) (h96 : ¬ T[l.p] = 96) (h92 : ¬ T[l.p] = 92) :
    Calls Tryz.prog 118 #[.pointer (some ⟨A, 0, none⟩)] w (StepAt w A B T (.next .bq (atP l (l.p + 1)))) := by
  have H := hide' h
  have n96 := beq_no T[l.p] 96 96 rfl h96
  have n92 := beq_no T[l.p] 92 92 rfl h92
  clear h96 h92
  have f2 := h.fz 2
  have hfr := h.frp
  have hsz := h.size
  have k2 := h.c2
  obtain ⟨q0, hq⟩ : ∃ q, q = l.p + 1 := ⟨_, rfl⟩
  rw [← hq]
  have hw : IntKind.i64.wrap ((l.p : Int) + 1) = (q0 : Int) := by rw [IntKind.wrap_i64]; omega
  have hq1 : l.fr ≤ q0 := by omega
  have hq2 : q0 ≤ T.size := by omega
  clear hq
  clear h
  go_enter Tryz.func118, Tryz.ntmps118
  go_wp2_with fail
  refine (inside_at _ A B T l tv ov H.out hp).mono ?_
  rintro e w1 ⟨rfl, n1, rfl⟩
  have HD := H.out.drew n1
  have hbd := below_drewn (w := w) (B := B) n1
  have HE := hide' (HD.setP q0 hq1 hq2)
  have HB := hide' (hbd.trans (below_set HD 2 (.int .i64 q0)))
  clear HD hbd
  go_wp2_with fail
  go_ret
  exact .next HB.out HE.out
section
variable {w : World} {A B : Nat} {T : ByteArray} {l : LS} {tv ov : Value}
theorem db_any (h : LexAt w A B T l tv ov) (hst : step (tl T) .db l ≠ .stuck) : Calls Tryz.prog 117 #[.pointer (some ⟨A, 0, none⟩)] w (StepAt w A B T (step (tl T) .db l)) := by
  have hpn := h.pn
  dsimp only [step] at hst ⊢
  rw [tl_len] at hst ⊢
  by_cases hp : l.p = T.size
  · rw [if_pos hp]; exact db_end w A B T l tv ov h hp
  rw [if_neg hp] at hst ⊢
  have hlt : l.p < T.size := by omega
  rw [getD_at T l.p hlt] at hst ⊢
  by_cases h34 : T[l.p] = 34
  · rw [if_pos h34] at hst ⊢
    obtain ⟨os, b, hop, he⟩ := leave_cases l hst
    rw [he]; exact db_leave w A B T l tv ov h hlt h34 os b hop
  rw [if_neg h34] at hst ⊢
  by_cases h39 : T[l.p] = 39
  · rw [if_pos h39]; exact db_byte w A B T l tv ov h hlt h34 h39
  rw [if_neg h39] at hst ⊢
  exact db_pass w A B T l tv ov h hlt h34 h39 hst
theorem cm_any (h : LexAt w A B T l tv ov) (hst : step (tl T) .cm l ≠ .stuck) : Calls Tryz.prog 119 #[.pointer (some ⟨A, 0, none⟩)] w (StepAt w A B T (step (tl T) .cm l)) := by
  have hpn := h.pn
  have hno := h.no
  dsimp only [step] at hst ⊢
  rw [tl_len] at hst ⊢
  by_cases hp : l.p = T.size
  · rw [if_pos hp]; exact cm_end w A B T l tv ov h hp
  rw [if_neg hp] at hst ⊢
  have hlt : l.p < T.size := by omega
  rw [getD_at T l.p hlt] at hst ⊢
  by_cases h40 : T[l.p] = 40
  · rw [if_pos h40] at hst ⊢
    unfold enterO
    by_cases hf : l.op.length = 60
    · rw [if_pos hf]; exact cm_full w A B T l tv ov h hlt h40 hf
    · rw [if_neg hf]; exact cm_enter w A B T l tv ov h hlt h40 (by omega)
  rw [if_neg h40] at hst ⊢
  by_cases h41 : T[l.p] = 41
  · rw [if_pos h41] at hst ⊢
    obtain ⟨os, b, hop, he⟩ := leave_cases l hst
    rw [he]; exact cm_leave w A B T l tv ov h hlt h40 h41 os b hop
  rw [if_neg h41] at hst ⊢
  exact cm_pass w A B T l tv ov h hlt h40 h41 hst
theorem br_any (h : LexAt w A B T l tv ov) (hst : step (tl T) .br l ≠ .stuck) : Calls Tryz.prog 120 #[.pointer (some ⟨A, 0, none⟩)] w (StepAt w A B T (step (tl T) .br l)) := by
  have hpn := h.pn
  dsimp only [step] at hst ⊢
  rw [tl_len] at hst ⊢
  by_cases hp : l.p = T.size
  · rw [if_pos hp]; exact br_end w A B T l tv ov h hp
  rw [if_neg hp] at hst ⊢
  have hlt : l.p < T.size := by omega
  rw [getD_at T l.p hlt] at hst ⊢
  by_cases h34 : T[l.p] = 125
  · rw [if_pos h34] at hst ⊢
    obtain ⟨os, b, hop, he⟩ := leave_cases l hst
    rw [he]; exact br_leave w A B T l tv ov h hlt h34 os b hop
  rw [if_neg h34] at hst ⊢
  exact br_pass w A B T l tv ov h hlt h34 hst
theorem bq_any (h : LexAt w A B T l tv ov) (hst : step (tl T) .bq l ≠ .stuck) : Calls Tryz.prog 118 #[.pointer (some ⟨A, 0, none⟩)] w (StepAt w A B T (step (tl T) .bq l)) := by
  have hpn := h.pn
  dsimp only [step] at hst ⊢
  rw [tl_len] at hst ⊢
  by_cases hp : l.p = T.size
  · rw [if_pos hp]; exact bq_end w A B T l tv ov h hp
  rw [if_neg hp] at hst ⊢
  have hlt : l.p < T.size := by omega
  rw [getD_at T l.p hlt] at hst ⊢
  by_cases h34 : T[l.p] = 96
  · rw [if_pos h34] at hst ⊢
    obtain ⟨os, b, hop, he⟩ := leave_cases l hst
    rw [he]; exact bq_leave w A B T l tv ov h hlt h34 os b hop
  rw [if_neg h34] at hst ⊢
  by_cases h92 : T[l.p] = 92
  · rw [if_pos h92]; exact bq_esc w A B T l tv ov h hlt h34 h92
  rw [if_neg h92]
  exact bq_byte w A B T l tv ov h hlt h34 h92
end
end Go.Proofs.YtcemlhfodpelaaaGreatDoor
namespace Go.Proofs.YtcemlhfodpelaaaGreatDoor
open Go.RowKit Go.Shelf
attribute [local go_sem] run_store_nilFunc run_store_func

def wends : Bs := [32, 9, 10, 59, 38, 124, 40, 41, 60, 62]
theorem wend_idx (c : UInt8) : decide (0 ≤ Lib.indexByte wends c) = wend c := by
  unfold wends wend
  have key : ∀ (L : Bs), decide (0 ≤ Lib.indexByte L c) = L.contains c := by
    intro L
    induction L with
    | nil => rfl
    | cons a r ih =>
      rw [List.contains_cons]
      unfold Lib.indexByte
      by_cases hc : a = c
      · subst hc; simp
      · have h1 : (a == c) = false := by simpa using hc
        have h2 : (c == a) = false := by simpa using fun e => hc e.symm
        rw [h1, h2, ← ih]
        have := Lib.indexByte_ge r c
        by_cases h0 : 0 ≤ Lib.indexByte r c
        · simp [h0]; split <;> omega
        · have h3 : Lib.indexByte r c = -1 := by omega
          simp [h3]
  rw [key]
  simp only [List.contains_cons, List.contains_nil, Bool.or_false, Bool.or_assoc]
theorem byteIdx (c : UInt8) (w : World) :
    Calls Tryz.prog 91 #[.string ⟨#[32, 9, 10, 59, 38, 124, 40, 41, 60, 62]⟩, .int .u8 c.toNat] w fun e w' => e = .returned (.int .i64 (Lib.indexByte wends c)) ∧ w' = w := by
  have := Tryz.strings_IndexByte ⟨#[32, 9, 10, 59, 38, 124, 40, 41, 60, 62]⟩ c.toNat w
  rw [show ((c.toNat : Int).toNat.toUInt8) = c by simp] at this
  exact this
section
variable {w : World} {A B : Nat} {T : ByteArray} {l : LS} {tv ov : Value}
/-- a token is told, and the state goes on -/
theorem tell_any (k : Nat) (h : LexAt w A B T l tv ov) : Calls Tryz.prog 68 #[.pointer (some ⟨A, 0, none⟩), .int .i64 k] w fun e w' => Below B w w' ∧ ((l.tk.length = 5000 ∧ e = panicsN 2) ∨ (¬ l.tk.length = 5000 ∧ e = .returned (.tuple #[]) ∧ ∃ tv' ov', LexAt w' A B T (tellS (tl T) k l) tv' ov')) := by
  have hnt := h.nt
  by_cases hf : l.tk.length = 5000
  · refine (tell_full w A B T l tv ov k h hf).mono ?_
    rintro e w' ⟨rfl, hb⟩
    exact ⟨hb, .inl ⟨hf, rfl⟩⟩
  · refine (tell_room w A B T l tv ov k h (by omega)).mono ?_
    rintro e w' ⟨rfl, hb, tv', h'⟩
    exact ⟨hb, .inr ⟨hf, rfl, tv', ov, h'⟩⟩
end
theorem tellO_full {T : Bs} {k : Nat} {l : LS} {f : LS → Out} (h : l.tk.length = 5000) : tellO T k l f = .bad 2 := if_pos h
theorem tellO_room {T : Bs} {k : Nat} {l : LS} {f : LS → Out} (h : ¬ l.tk.length = 5000) : tellO T k l f = f (tellS T k l) := if_neg h
set_option maxHeartbeats 1000000 in
theorem wd_tell (w : World) (A B : Nat) (T : ByteArray) (l : LS) (tv ov : Value) (h : LexAt w A B T l tv ov) (hp : l.p < T.size) (hw : wend T[l.p] = true) :
    Calls Tryz.prog 71 #[.pointer (some ⟨A, 0, none⟩)] w (StepAt w A B T (tellO (tl T) 1 l (.next .bw))) := by
  have k0 := h.c0
  have k2 := h.c2
  have H := hide' h
  have q := fun w => byteIdx T[l.p] w
  have hi := wend_idx T[l.p]
  rw [hw] at hi
  generalize Lib.indexByte wends T[l.p] = i at q hi
  have hne : ((l.p : Int) == (T.size : Int)) = false := by simp; omega
  clear h hw
  go_enter Tryz.func71, Tryz.ntmps71
  go_wp2_with fail
  go_quiet ((go_at_call 91; exact (q _).mono fun _ _ h => ⟨h.1, _, h.2⟩))
  go_wp2_with fail
  refine (tell_any 1 (H.out.drew nq)).mono ?_
  rintro e w1 ⟨hb1, h1⟩
  have HB := hide' ((below_drewn (w := w) (B := B) nq).trans hb1)
  clear hb1
  rcases h1 with ⟨hf, rfl⟩ | ⟨hf, rfl, h1⟩
  · refine ⟨rfl, ?_⟩
    rw [tellO_full hf]
    exact ⟨HB.out, rfl⟩
  · go_wp2_with fail
    go_ret
    rw [tellO_room hf]
    exact ⟨HB.out, rfl, h1⟩
set_option maxHeartbeats 1000000 in
theorem wd_end (w : World) (A B : Nat) (T : ByteArray) (l : LS) (tv ov : Value) (h : LexAt w A B T l tv ov) (hp : l.p = T.size) :
    Calls Tryz.prog 71 #[.pointer (some ⟨A, 0, none⟩)] w (StepAt w A B T (tellO (tl T) 1 l (.next .bw))) := by
  have k0 := h.c0
  have k2 := h.c2
  have H := hide' h
  have hne : ((l.p : Int) == (T.size : Int)) = true := by simp; omega
  clear h hp
  go_enter Tryz.func71, Tryz.ntmps71
  go_wp2_with fail
  go_quiet (fail)
  go_wp2_with fail
  refine (tell_any 1 (H.out.drew nq)).mono ?_
  rintro e w1 ⟨hb1, h1⟩
  have HB := hide' ((below_drewn (w := w) (B := B) nq).trans hb1)
  clear hb1
  rcases h1 with ⟨hf, rfl⟩ | ⟨hf, rfl, h1⟩
  · refine ⟨rfl, ?_⟩
    rw [tellO_full hf]
    exact ⟨HB.out, rfl⟩
  · go_wp2_with fail
    go_ret
    rw [tellO_room hf]
    exact ⟨HB.out, rfl, h1⟩
set_option maxHeartbeats 1000000 in
theorem wd_pass (w : World) (A B : Nat) (T : ByteArray) (l : LS) (tv ov : Value) (h : LexAt w A B T l tv ov) (hp : l.p < T.size) (hw : wend T[l.p] = false) (hst : passO (tl T) .wd l ≠ .stuck) :
    Calls Tryz.prog 71 #[.pointer (some ⟨A, 0, none⟩)] w (StepAt w A B T (passO (tl T) .wd l)) := by
  have k0 := h.c0
  have k2 := h.c2
  have H := hide' h
  have q := fun w => byteIdx T[l.p] w
  have hi := wend_idx T[l.p]
  rw [hw] at hi
  generalize Lib.indexByte wends T[l.p] = i at q hi
  have hne : ((l.p : Int) == (T.size : Int)) = false := by simp; omega
  have qp := fun w h => pass_any .wd w A B T l tv ov h hp
  generalize passO (tl T) .wd l = o at qp hst ⊢
  clear h hw
  go_enter Tryz.func71, Tryz.ntmps71
  go_wp2_with fail
  go_quiet ((go_at_call 91; exact (q _).mono fun _ _ h => ⟨h.1, _, h.2⟩))
  go_wp2_with fail
  refine (qp _ (H.out.drew nq)).mono ?_
  rintro e w2 ⟨hb2, h2⟩
  have HB := hide' ((below_drewn (w := w) (B := B) nq).trans hb2)
  clear hb2
  cases o with
  | next s' l' =>
    obtain ⟨rfl, h3⟩ := h2
    go_wp2_with fail
    go_ret
    exact ⟨HB.out, rfl, h3⟩
  | done l' =>
    obtain ⟨rfl, h3⟩ := h2
    go_wp2_with fail
    go_ret
    exact ⟨HB.out, rfl, h3⟩
  | bad n =>
    obtain rfl := h2
    exact ⟨rfl, HB.out, rfl⟩
  | stuck => exact absurd rfl hst
theorem pass_stuck (T : Bs) (s : St) (l : LS) : passO T s l ≠ .stuck := by
  unfold passO enterO
  intro h
  repeat' split at h
  all_goals cases h
theorem wd_any {w : World} {A B : Nat} {T : ByteArray} {l : LS} {tv ov : Value} (h : LexAt w A B T l tv ov) : Calls Tryz.prog 71 #[.pointer (some ⟨A, 0, none⟩)] w (StepAt w A B T (step (tl T) .wd l)) := by
  have hpn := h.pn
  dsimp only [step]
  rw [tl_len]
  by_cases hp : l.p = T.size
  · rw [if_pos (.inl hp)]; exact wd_end w A B T l tv ov h hp
  have hlt : l.p < T.size := by omega
  rw [getD_at T l.p hlt]
  cases hw : wend T[l.p] with
  | true => rw [if_pos (.inr rfl)]; exact wd_tell w A B T l tv ov h hlt hw
  | false => rw [if_neg (by simp [hp])]; exact wd_pass w A B T l tv ov h hlt hw (pass_stuck _ _ _)
end Go.Proofs.YtcemlhfodpelaaaGreatDoor
