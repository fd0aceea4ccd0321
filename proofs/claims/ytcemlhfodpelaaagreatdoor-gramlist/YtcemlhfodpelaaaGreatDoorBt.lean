/- The contract of the lexer's state between tokens. -/
import Derived.Test.YtcemlhfodpelaaaGreatDoorZi
namespace Go.Proofs.YtcemlhfodpelaaaGreatDoor
open Go.RowKit Go.Shelf
attribute [local go_sem] run_store_nilFunc run_store_func

set_option maxHeartbeats 1000000 in
theorem bw_end (w : World) (A B : Nat) (T : ByteArray) (l : LS) (tv ov : Value) (h : LexAt w A B T l tv ov) (hp : l.p = T.size)  :
    Calls Tryz.prog 46 #[.pointer (some ⟨A, 0, none⟩)] w (StepAt w A B T (tellO (tl T) 4 ⟨l.p, l.p, l.tk, l.op⟩ .done)) := by
  have k1 := h.c1
  have k2 := h.c2
  have f1 := h.fz 1
  have hsz := h.size
  obtain ⟨W, hW⟩ : ∃ W, W = w.setCell ⟨A, 1, none⟩ (.int .i64 l.p) := ⟨_, rfl⟩
  have h1 : LexAt W A B T ⟨l.p, l.p, l.tk, l.op⟩ tv ov := by rw [hW]; exact h.setF
  have hbW : Below B w W := by rw [hW]; exact below_set h 1 _
  have d0 := h1.c0
  have d2 := h1.c2
  have e2 := h1.fz 2
  dsimp only at d2
  have HW := hide' hW
  have H := hide' h1
  have HBW := hide' hbW
  have hne : ((l.p : Int) == (T.size : Int)) = true := by simp; omega
  clear hp
  clear hW h1 h hbW
  go_enter Tryz.func46, Tryz.ntmps46
  go_wp2_with fail
  rw [← HW.out]
  clear k1 k2 f1
  go_quiet (fail)
  go_wp2_with fail
  refine (tell_any 4 (H.out.drew _)).mono ?_
  rintro e w1 ⟨hb1, h1⟩
  have HB := hide' ((HBW.out.trans (below_drewn (w := W) (B := B) _)).trans hb1)
  clear hb1
  rcases h1 with ⟨hf, rfl⟩ | ⟨hf, rfl, h1⟩
  · refine ⟨rfl, ?_⟩
    rw [tellO_full (by exact hf)]
    exact ⟨HB.out, rfl⟩
  · go_wp2_with fail
    go_ret
    rw [tellO_room (by exact hf)]
    exact ⟨HB.out, rfl, h1⟩
set_option maxHeartbeats 1000000 in
theorem bw_32 (w : World) (A B : Nat) (T : ByteArray) (l : LS) (tv ov : Value) (h : LexAt w A B T l tv ov) (hp : l.p < T.size)  (hy : T[l.p] = 32)  :
    Calls Tryz.prog 46 #[.pointer (some ⟨A, 0, none⟩)] w (StepAt w A B T (.next .bw (atP ⟨l.p, l.p, l.tk, l.op⟩ (l.p + 1)))) := by
  have k1 := h.c1
  have k2 := h.c2
  have f1 := h.fz 1
  have hsz := h.size
  obtain ⟨W, hW⟩ : ∃ W, W = w.setCell ⟨A, 1, none⟩ (.int .i64 l.p) := ⟨_, rfl⟩
  have h1 : LexAt W A B T ⟨l.p, l.p, l.tk, l.op⟩ tv ov := by rw [hW]; exact h.setF
  have hbW : Below B w W := by rw [hW]; exact below_set h 1 _
  have d0 := h1.c0
  have d2 := h1.c2
  have e2 := h1.fz 2
  dsimp only at d2
  have HW := hide' hW
  have H := hide' h1
  have HBW := hide' hbW
  have hne : ((l.p : Int) == (T.size : Int)) = false := by simp; omega
  have y32 := beq_yes T[l.p] 32 32 rfl hy
  clear hy
  clear hW h1 h hbW
  obtain ⟨q0, hq⟩ : ∃ q, q = l.p + 1 := ⟨_, rfl⟩
  rw [← hq]
  have hw : IntKind.i64.wrap ((l.p : Int) + 1) = (q0 : Int) := by rw [IntKind.wrap_i64]; omega
  have hq1 : l.p ≤ q0 := by omega
  have hq2 : q0 ≤ T.size := by omega
  clear hq
  go_enter Tryz.func46, Tryz.ntmps46
  go_wp2_with fail
  rw [← HW.out]
  clear k1 k2 f1
  go_quiet (fail)
  have HE := hide' fun n => (H.out.drew n).setP q0 hq1 hq2
  have HB := hide' fun n => HBW.out.trans ((below_drewn (w := W) (B := B) n).trans (below_set (H.out.drew n) 2 (.int .i64 q0)))
  go_wp2_with fail
  go_quiet (fail)
  go_wp2_with fail
  go_ret
  exact .next (HB.out _) (HE.out _)
set_option maxHeartbeats 1000000 in
theorem bw_9 (w : World) (A B : Nat) (T : ByteArray) (l : LS) (tv ov : Value) (h : LexAt w A B T l tv ov) (hp : l.p < T.size) (h32 : ¬ T[l.p] = 32) (hy : T[l.p] = 9)  :
    Calls Tryz.prog 46 #[.pointer (some ⟨A, 0, none⟩)] w (StepAt w A B T (.next .bw (atP ⟨l.p, l.p, l.tk, l.op⟩ (l.p + 1)))) := by
  have k1 := h.c1
  have k2 := h.c2
  have f1 := h.fz 1
  have hsz := h.size
  obtain ⟨W, hW⟩ : ∃ W, W = w.setCell ⟨A, 1, none⟩ (.int .i64 l.p) := ⟨_, rfl⟩
  have h1 : LexAt W A B T ⟨l.p, l.p, l.tk, l.op⟩ tv ov := by rw [hW]; exact h.setF
  have hbW : Below B w W := by rw [hW]; exact below_set h 1 _
  have d0 := h1.c0
  have d2 := h1.c2
  have e2 := h1.fz 2
  dsimp only at d2
  have HW := hide' hW
  have H := hide' h1
  have HBW := hide' hbW
  have hne : ((l.p : Int) == (T.size : Int)) = false := by simp; omega
  have n32 := beq_no T[l.p] 32 32 rfl h32
  have y9 := beq_yes T[l.p] 9 9 rfl hy
  clear h32 hy
  clear hW h1 h hbW
  obtain ⟨q0, hq⟩ : ∃ q, q = l.p + 1 := ⟨_, rfl⟩
  rw [← hq]
  have hw : IntKind.i64.wrap ((l.p : Int) + 1) = (q0 : Int) := by rw [IntKind.wrap_i64]; omega
  have hq1 : l.p ≤ q0 := by omega
  have hq2 : q0 ≤ T.size := by omega
  clear hq
  go_enter Tryz.func46, Tryz.ntmps46
  go_wp2_with fail
  rw [← HW.out]
  clear k1 k2 f1
  go_quiet (fail)
  have HE := hide' fun n => (H.out.drew n).setP q0 hq1 hq2
  have HB := hide' fun n => HBW.out.trans ((below_drewn (w := W) (B := B) n).trans (below_set (H.out.drew n) 2 (.int .i64 q0)))
  go_wp2_with fail
  go_quiet (fail)
  go_wp2_with fail
  go_ret
  exact .next (HB.out _) (HE.out _)
set_option maxHeartbeats 1000000 in
theorem bw_35 (w : World) (A B : Nat) (T : ByteArray) (l : LS) (tv ov : Value) (h : LexAt w A B T l tv ov) (hp : l.p < T.size) (h32 : ¬ T[l.p] = 32) (h9 : ¬ T[l.p] = 9) (hy : T[l.p] = 35)  :
    Calls Tryz.prog 46 #[.pointer (some ⟨A, 0, none⟩)] w (StepAt w A B T (.next .bw (atP ⟨l.p, l.p, l.tk, l.op⟩ (l.p + cutN ((tl T).drop l.p) 10)))) := by
  have k1 := h.c1
  have k2 := h.c2
  have f1 := h.fz 1
  have hsz := h.size
  obtain ⟨W, hW⟩ : ∃ W, W = w.setCell ⟨A, 1, none⟩ (.int .i64 l.p) := ⟨_, rfl⟩
  have h1 : LexAt W A B T ⟨l.p, l.p, l.tk, l.op⟩ tv ov := by rw [hW]; exact h.setF
  have hbW : Below B w W := by rw [hW]; exact below_set h 1 _
  have d0 := h1.c0
  have d2 := h1.c2
  have e2 := h1.fz 2
  dsimp only at d2
  have HW := hide' hW
  have H := hide' h1
  have HBW := hide' hbW
  have hne : ((l.p : Int) == (T.size : Int)) = false := by simp; omega
  have n32 := beq_no T[l.p] 32 32 rfl h32
  have n9 := beq_no T[l.p] 9 9 rfl h9
  have y35 := beq_yes T[l.p] 35 35 rfl hy
  clear h32 h9 hy
  clear hW h1 h hbW
  go_enter Tryz.func46, Tryz.ntmps46
  go_wp2_with fail
  rw [← HW.out]
  clear k1 k2 f1
  go_quiet (fail)
  go_wp2_with fail
  go_quiet (fail)
  go_wp2_with fail
  refine (comment_any _ A B T ⟨l.p, l.p, l.tk, l.op⟩ tv ov (H.out.drew _)).mono ?_
  rintro e w1 ⟨rfl, hb1, h1⟩
  have HB := hide' (HBW.out.trans ((below_drewn (w := W) (B := B) _).trans hb1))
  clear hb1
  go_wp2_with fail
  go_ret
  exact .next HB.out h1
set_option maxHeartbeats 1000000 in
theorem bw_10 (w : World) (A B : Nat) (T : ByteArray) (l : LS) (tv ov : Value) (h : LexAt w A B T l tv ov) (hp : l.p < T.size) (h32 : ¬ T[l.p] = 32) (h9 : ¬ T[l.p] = 9) (h35 : ¬ T[l.p] = 35) (hy : T[l.p] = 10)  :
    Calls Tryz.prog 46 #[.pointer (some ⟨A, 0, none⟩)] w (StepAt w A B T (tellO (tl T) 3 (atP ⟨l.p, l.p, l.tk, l.op⟩ (l.p + 1)) (.next .bw))) := by
  have k1 := h.c1
  have k2 := h.c2
  have f1 := h.fz 1
  have hsz := h.size
  obtain ⟨W, hW⟩ : ∃ W, W = w.setCell ⟨A, 1, none⟩ (.int .i64 l.p) := ⟨_, rfl⟩
  have h1 : LexAt W A B T ⟨l.p, l.p, l.tk, l.op⟩ tv ov := by rw [hW]; exact h.setF
  have hbW : Below B w W := by rw [hW]; exact below_set h 1 _
  have d0 := h1.c0
  have d2 := h1.c2
  have e2 := h1.fz 2
  dsimp only at d2
  have HW := hide' hW
  have H := hide' h1
  have HBW := hide' hbW
  have hne : ((l.p : Int) == (T.size : Int)) = false := by simp; omega
  have n32 := beq_no T[l.p] 32 32 rfl h32
  have n9 := beq_no T[l.p] 9 9 rfl h9
  have n35 := beq_no T[l.p] 35 35 rfl h35
  have y10 := beq_yes T[l.p] 10 10 rfl hy
  clear h32 h9 h35 hy
  clear hW h1 h hbW
  obtain ⟨q0, hq⟩ : ∃ q, q = l.p + 1 := ⟨_, rfl⟩
  rw [← hq]
  have hw : IntKind.i64.wrap ((l.p : Int) + 1) = (q0 : Int) := by rw [IntKind.wrap_i64]; omega
  have hq1 : l.p ≤ q0 := by omega
  have hq2 : q0 ≤ T.size := by omega
  clear hq
  go_enter Tryz.func46, Tryz.ntmps46
  go_wp2_with fail
  rw [← HW.out]
  clear k1 k2 f1
  go_quiet (fail)
  have HE := hide' fun n => (H.out.drew n).setP q0 hq1 hq2
  have HB0 := hide' fun n => HBW.out.trans ((below_drewn (w := W) (B := B) n).trans (below_set (H.out.drew n) 2 (.int .i64 q0)))
  go_wp2_with fail
  go_quiet (fail)
  go_wp2_with fail
  refine (tell_any 3 (HE.out _)).mono ?_
  rintro e w1 ⟨hb1, h1⟩
  have HB := hide' ((HB0.out _).trans hb1)
  clear hb1
  rcases h1 with ⟨hf, rfl⟩ | ⟨hf, rfl, h1⟩
  · refine ⟨rfl, ?_⟩
    rw [tellO_full (by exact hf)]
    exact ⟨HB.out, rfl⟩
  · go_wp2_with fail
    go_ret
    rw [tellO_room (by exact hf)]
    exact ⟨HB.out, rfl, h1⟩
set_option maxHeartbeats 1000000 in
theorem bw_59 (w : World) (A B : Nat) (T : ByteArray) (l : LS) (tv ov : Value) (h : LexAt w A B T l tv ov) (hp : l.p < T.size) (h32 : ¬ T[l.p] = 32) (h9 : ¬ T[l.p] = 9) (h35 : ¬ T[l.p] = 35) (h10 : ¬ T[l.p] = 10) (hy : T[l.p] = 59) (ho : foll (tl T) l.p T[l.p] = false) :
    Calls Tryz.prog 46 #[.pointer (some ⟨A, 0, none⟩)] w (StepAt w A B T (tellO (tl T) 2 (atP ⟨l.p, l.p, l.tk, l.op⟩ (l.p + 1)) (.next .bw))) := by
  have k1 := h.c1
  have k2 := h.c2
  have f1 := h.fz 1
  have hsz := h.size
  obtain ⟨W, hW⟩ : ∃ W, W = w.setCell ⟨A, 1, none⟩ (.int .i64 l.p) := ⟨_, rfl⟩
  have h1 : LexAt W A B T ⟨l.p, l.p, l.tk, l.op⟩ tv ov := by rw [hW]; exact h.setF
  have hbW : Below B w W := by rw [hW]; exact below_set h 1 _
  have d0 := h1.c0
  have d2 := h1.c2
  have e2 := h1.fz 2
  dsimp only at d2
  have HW := hide' hW
  have H := hide' h1
  have HBW := hide' hbW
  have hne : ((l.p : Int) == (T.size : Int)) = false := by simp; omega
  have n32 := beq_no T[l.p] 32 32 rfl h32
  have n9 := beq_no T[l.p] 9 9 rfl h9
  have n35 := beq_no T[l.p] 35 35 rfl h35
  have n10 := beq_no T[l.p] 10 10 rfl h10
  have y59 := beq_yes T[l.p] 59 59 rfl hy
  clear h32 h9 h35 h10 hy
  clear hW h1 h hbW
  obtain ⟨q0, hq⟩ : ∃ q, q = l.p + 1 := ⟨_, rfl⟩
  rw [← hq]
  have hw : IntKind.i64.wrap ((l.p : Int) + 1) = (q0 : Int) := by rw [IntKind.wrap_i64]; omega
  have hq1 : l.p ≤ q0 := by omega
  have hq2 : q0 ≤ T.size := by omega
  clear hq
  have qf := fun w h => follows_any w A B T ⟨l.p, l.p, l.tk, l.op⟩ tv ov T[l.p] h
  dsimp only at qf
  rw [ho] at qf
  clear ho
  go_enter Tryz.func46, Tryz.ntmps46
  go_wp2_with fail
  rw [← HW.out]
  clear k1 k2 f1
  go_quiet (fail)
  have HE := hide' fun n => (H.out.drew n).setP q0 hq1 hq2
  have HB0 := hide' fun n => HBW.out.trans ((below_drewn (w := W) (B := B) n).trans (below_set (H.out.drew n) 2 (.int .i64 q0)))
  go_wp2_with fail
  go_quiet (fail)
  go_wp2_with fail
  refine (qf _ (H.out.drew _)).mono ?_
  rintro e w1 ⟨rfl, n1, rfl⟩
  clear qf
  go_wp2_with fail
  refine (tell_any 2 (HE.out _)).mono ?_
  rintro e w1 ⟨hb1, h1⟩
  have HB := hide' ((HB0.out _).trans hb1)
  clear hb1
  rcases h1 with ⟨hf, rfl⟩ | ⟨hf, rfl, h1⟩
  · refine ⟨rfl, ?_⟩
    rw [tellO_full (by exact hf)]
    exact ⟨HB.out, rfl⟩
  · go_wp2_with fail
    go_ret
    rw [tellO_room (by exact hf)]
    exact ⟨HB.out, rfl, h1⟩
set_option maxHeartbeats 1000000 in
theorem bw_59two (w : World) (A B : Nat) (T : ByteArray) (l : LS) (tv ov : Value) (h : LexAt w A B T l tv ov) (hp : l.p < T.size) (h32 : ¬ T[l.p] = 32) (h9 : ¬ T[l.p] = 9) (h35 : ¬ T[l.p] = 35) (h10 : ¬ T[l.p] = 10) (hy : T[l.p] = 59) (ho : foll (tl T) l.p T[l.p] = true) (hk : l.p + 2 ≤ T.size) :
    Calls Tryz.prog 46 #[.pointer (some ⟨A, 0, none⟩)] w (StepAt w A B T (tellO (tl T) 2 (atP ⟨l.p, l.p, l.tk, l.op⟩ (l.p + 1 + 1)) (.next .bw))) := by
  have k1 := h.c1
  have k2 := h.c2
  have f1 := h.fz 1
  have hsz := h.size
  obtain ⟨W, hW⟩ : ∃ W, W = w.setCell ⟨A, 1, none⟩ (.int .i64 l.p) := ⟨_, rfl⟩
  have h1 : LexAt W A B T ⟨l.p, l.p, l.tk, l.op⟩ tv ov := by rw [hW]; exact h.setF
  have hbW : Below B w W := by rw [hW]; exact below_set h 1 _
  have d0 := h1.c0
  have d2 := h1.c2
  have e2 := h1.fz 2
  dsimp only at d2
  have HW := hide' hW
  have H := hide' h1
  have HBW := hide' hbW
  have hne : ((l.p : Int) == (T.size : Int)) = false := by simp; omega
  have n32 := beq_no T[l.p] 32 32 rfl h32
  have n9 := beq_no T[l.p] 9 9 rfl h9
  have n35 := beq_no T[l.p] 35 35 rfl h35
  have n10 := beq_no T[l.p] 10 10 rfl h10
  have y59 := beq_yes T[l.p] 59 59 rfl hy
  clear h32 h9 h35 h10 hy
  clear hW h1 h hbW
  obtain ⟨q0, hq⟩ : ∃ q, q = l.p + 1 := ⟨_, rfl⟩
  rw [← hq]
  have hw : IntKind.i64.wrap ((l.p : Int) + 1) = (q0 : Int) := by rw [IntKind.wrap_i64]; omega
  have hq1 : l.p ≤ q0 := by omega
  have hq2 : q0 ≤ T.size := by omega
  clear hq
  obtain ⟨q3, hq3⟩ : ∃ q, q = q0 + 1 := ⟨_, rfl⟩
  rw [← hq3]
  have hw3 : IntKind.i64.wrap ((q0 : Int) + 1) = (q3 : Int) := by rw [IntKind.wrap_i64]; omega
  have hw' : IntKind.i64.wrap ((l.p : Int) + 1) = (q0 : Int) := hw
  have hq4 : l.p ≤ q3 := by omega
  have hq5 : q3 ≤ T.size := by
    rw [IntKind.wrap_i64] at hw
    omega
  clear hq3 hk
  have qf := fun w h => follows_any w A B T ⟨l.p, l.p, l.tk, l.op⟩ tv ov T[l.p] h
  dsimp only at qf
  rw [ho] at qf
  clear ho
  go_enter Tryz.func46, Tryz.ntmps46
  go_wp2_with fail
  rw [← HW.out]
  clear k1 k2 f1
  go_quiet (fail)
  have HE := hide' fun n => ((H.out.drew n).setP q0 hq1 hq2).setP q3 hq4 hq5
  have HB0 := hide' fun n => HBW.out.trans ((below_drewn (w := W) (B := B) n).trans ((below_set (H.out.drew n) 2 (.int .i64 q0)).trans (below_set ((H.out.drew n).setP q0 hq1 hq2) 2 (.int .i64 q3))))
  go_wp2_with fail
  go_quiet (fail)
  go_wp2_with fail
  refine (qf _ (H.out.drew _)).mono ?_
  rintro e w1 ⟨rfl, n1, rfl⟩
  clear qf
  go_wp2_with fail
  refine (tell_any 2 (HE.out _)).mono ?_
  rintro e w1 ⟨hb1, h1⟩
  have HB := hide' ((HB0.out _).trans hb1)
  clear hb1
  rcases h1 with ⟨hf, rfl⟩ | ⟨hf, rfl, h1⟩
  · refine ⟨rfl, ?_⟩
    rw [tellO_full (by exact hf)]
    exact ⟨HB.out, rfl⟩
  · go_wp2_with fail
    go_ret
    rw [tellO_room (by exact hf)]
    exact ⟨HB.out, rfl, h1⟩
set_option maxHeartbeats 1000000 in
theorem bw_38 (w : World) (A B : Nat) (T : ByteArray) (l : LS) (tv ov : Value) (h : LexAt w A B T l tv ov) (hp : l.p < T.size) (h32 : ¬ T[l.p] = 32) (h9 : ¬ T[l.p] = 9) (h35 : ¬ T[l.p] = 35) (h10 : ¬ T[l.p] = 10) (h59 : ¬ T[l.p] = 59) (hy : T[l.p] = 38) (ho : foll (tl T) l.p T[l.p] = false) :
    Calls Tryz.prog 46 #[.pointer (some ⟨A, 0, none⟩)] w (StepAt w A B T (tellO (tl T) 2 (atP ⟨l.p, l.p, l.tk, l.op⟩ (l.p + 1)) (.next .bw))) := by
  have k1 := h.c1
  have k2 := h.c2
  have f1 := h.fz 1
  have hsz := h.size
  obtain ⟨W, hW⟩ : ∃ W, W = w.setCell ⟨A, 1, none⟩ (.int .i64 l.p) := ⟨_, rfl⟩
  have h1 : LexAt W A B T ⟨l.p, l.p, l.tk, l.op⟩ tv ov := by rw [hW]; exact h.setF
  have hbW : Below B w W := by rw [hW]; exact below_set h 1 _
  have d0 := h1.c0
  have d2 := h1.c2
  have e2 := h1.fz 2
  dsimp only at d2
  have HW := hide' hW
  have H := hide' h1
  have HBW := hide' hbW
  have hne : ((l.p : Int) == (T.size : Int)) = false := by simp; omega
  have n32 := beq_no T[l.p] 32 32 rfl h32
  have n9 := beq_no T[l.p] 9 9 rfl h9
  have n35 := beq_no T[l.p] 35 35 rfl h35
  have n10 := beq_no T[l.p] 10 10 rfl h10
  have n59 := beq_no T[l.p] 59 59 rfl h59
  have y38 := beq_yes T[l.p] 38 38 rfl hy
  clear h32 h9 h35 h10 h59 hy
  clear hW h1 h hbW
  obtain ⟨q0, hq⟩ : ∃ q, q = l.p + 1 := ⟨_, rfl⟩
  rw [← hq]
  have hw : IntKind.i64.wrap ((l.p : Int) + 1) = (q0 : Int) := by rw [IntKind.wrap_i64]; omega
  have hq1 : l.p ≤ q0 := by omega
  have hq2 : q0 ≤ T.size := by omega
  clear hq
  have qf := fun w h => follows_any w A B T ⟨l.p, l.p, l.tk, l.op⟩ tv ov T[l.p] h
  dsimp only at qf
  rw [ho] at qf
  clear ho
  go_enter Tryz.func46, Tryz.ntmps46
  go_wp2_with fail
  rw [← HW.out]
  clear k1 k2 f1
  go_quiet (fail)
  have HE := hide' fun n => (H.out.drew n).setP q0 hq1 hq2
  have HB0 := hide' fun n => HBW.out.trans ((below_drewn (w := W) (B := B) n).trans (below_set (H.out.drew n) 2 (.int .i64 q0)))
  go_wp2_with fail
  go_quiet (fail)
  go_wp2_with fail
  refine (qf _ (H.out.drew _)).mono ?_
  rintro e w1 ⟨rfl, n1, rfl⟩
  clear qf
  go_wp2_with fail
  refine (tell_any 2 (HE.out _)).mono ?_
  rintro e w1 ⟨hb1, h1⟩
  have HB := hide' ((HB0.out _).trans hb1)
  clear hb1
  rcases h1 with ⟨hf, rfl⟩ | ⟨hf, rfl, h1⟩
  · refine ⟨rfl, ?_⟩
    rw [tellO_full (by exact hf)]
    exact ⟨HB.out, rfl⟩
  · go_wp2_with fail
    go_ret
    rw [tellO_room (by exact hf)]
    exact ⟨HB.out, rfl, h1⟩
set_option maxHeartbeats 1000000 in
theorem bw_38two (w : World) (A B : Nat) (T : ByteArray) (l : LS) (tv ov : Value) (h : LexAt w A B T l tv ov) (hp : l.p < T.size) (h32 : ¬ T[l.p] = 32) (h9 : ¬ T[l.p] = 9) (h35 : ¬ T[l.p] = 35) (h10 : ¬ T[l.p] = 10) (h59 : ¬ T[l.p] = 59) (hy : T[l.p] = 38) (ho : foll (tl T) l.p T[l.p] = true) (hk : l.p + 2 ≤ T.size) :
    Calls Tryz.prog 46 #[.pointer (some ⟨A, 0, none⟩)] w (StepAt w A B T (tellO (tl T) 2 (atP ⟨l.p, l.p, l.tk, l.op⟩ (l.p + 1 + 1)) (.next .bw))) := by
  have k1 := h.c1
  have k2 := h.c2
  have f1 := h.fz 1
  have hsz := h.size
  obtain ⟨W, hW⟩ : ∃ W, W = w.setCell ⟨A, 1, none⟩ (.int .i64 l.p) := ⟨_, rfl⟩
  have h1 : LexAt W A B T ⟨l.p, l.p, l.tk, l.op⟩ tv ov := by rw [hW]; exact h.setF
  have hbW : Below B w W := by rw [hW]; exact below_set h 1 _
  have d0 := h1.c0
  have d2 := h1.c2
  have e2 := h1.fz 2
  dsimp only at d2
  have HW := hide' hW
  have H := hide' h1
  have HBW := hide' hbW
  have hne : ((l.p : Int) == (T.size : Int)) = false := by simp; omega
  have n32 := beq_no T[l.p] 32 32 rfl h32
  have n9 := beq_no T[l.p] 9 9 rfl h9
  have n35 := beq_no T[l.p] 35 35 rfl h35
  have n10 := beq_no T[l.p] 10 10 rfl h10
  have n59 := beq_no T[l.p] 59 59 rfl h59
  have y38 := beq_yes T[l.p] 38 38 rfl hy
  clear h32 h9 h35 h10 h59 hy
  clear hW h1 h hbW
  obtain ⟨q0, hq⟩ : ∃ q, q = l.p + 1 := ⟨_, rfl⟩
  rw [← hq]
  have hw : IntKind.i64.wrap ((l.p : Int) + 1) = (q0 : Int) := by rw [IntKind.wrap_i64]; omega
  have hq1 : l.p ≤ q0 := by omega
  have hq2 : q0 ≤ T.size := by omega
  clear hq
  obtain ⟨q3, hq3⟩ : ∃ q, q = q0 + 1 := ⟨_, rfl⟩
  rw [← hq3]
  have hw3 : IntKind.i64.wrap ((q0 : Int) + 1) = (q3 : Int) := by rw [IntKind.wrap_i64]; omega
  have hw' : IntKind.i64.wrap ((l.p : Int) + 1) = (q0 : Int) := hw
  have hq4 : l.p ≤ q3 := by omega
  have hq5 : q3 ≤ T.size := by
    rw [IntKind.wrap_i64] at hw
    omega
  clear hq3 hk
  have qf := fun w h => follows_any w A B T ⟨l.p, l.p, l.tk, l.op⟩ tv ov T[l.p] h
  dsimp only at qf
  rw [ho] at qf
  clear ho
  go_enter Tryz.func46, Tryz.ntmps46
  go_wp2_with fail
  rw [← HW.out]
  clear k1 k2 f1
  go_quiet (fail)
  have HE := hide' fun n => ((H.out.drew n).setP q0 hq1 hq2).setP q3 hq4 hq5
  have HB0 := hide' fun n => HBW.out.trans ((below_drewn (w := W) (B := B) n).trans ((below_set (H.out.drew n) 2 (.int .i64 q0)).trans (below_set ((H.out.drew n).setP q0 hq1 hq2) 2 (.int .i64 q3))))
  go_wp2_with fail
  go_quiet (fail)
  go_wp2_with fail
  refine (qf _ (H.out.drew _)).mono ?_
  rintro e w1 ⟨rfl, n1, rfl⟩
  clear qf
  go_wp2_with fail
  refine (tell_any 2 (HE.out _)).mono ?_
  rintro e w1 ⟨hb1, h1⟩
  have HB := hide' ((HB0.out _).trans hb1)
  clear hb1
  rcases h1 with ⟨hf, rfl⟩ | ⟨hf, rfl, h1⟩
  · refine ⟨rfl, ?_⟩
    rw [tellO_full (by exact hf)]
    exact ⟨HB.out, rfl⟩
  · go_wp2_with fail
    go_ret
    rw [tellO_room (by exact hf)]
    exact ⟨HB.out, rfl, h1⟩
set_option maxHeartbeats 1000000 in
theorem bw_124 (w : World) (A B : Nat) (T : ByteArray) (l : LS) (tv ov : Value) (h : LexAt w A B T l tv ov) (hp : l.p < T.size) (h32 : ¬ T[l.p] = 32) (h9 : ¬ T[l.p] = 9) (h35 : ¬ T[l.p] = 35) (h10 : ¬ T[l.p] = 10) (h59 : ¬ T[l.p] = 59) (h38 : ¬ T[l.p] = 38) (hy : T[l.p] = 124) (ho : foll (tl T) l.p T[l.p] = false) :
    Calls Tryz.prog 46 #[.pointer (some ⟨A, 0, none⟩)] w (StepAt w A B T (tellO (tl T) 2 (atP ⟨l.p, l.p, l.tk, l.op⟩ (l.p + 1)) (.next .bw))) := by
  have k1 := h.c1
  have k2 := h.c2
  have f1 := h.fz 1
  have hsz := h.size
  obtain ⟨W, hW⟩ : ∃ W, W = w.setCell ⟨A, 1, none⟩ (.int .i64 l.p) := ⟨_, rfl⟩
  have h1 : LexAt W A B T ⟨l.p, l.p, l.tk, l.op⟩ tv ov := by rw [hW]; exact h.setF
  have hbW : Below B w W := by rw [hW]; exact below_set h 1 _
  have d0 := h1.c0
  have d2 := h1.c2
  have e2 := h1.fz 2
  dsimp only at d2
  have HW := hide' hW
  have H := hide' h1
  have HBW := hide' hbW
  have hne : ((l.p : Int) == (T.size : Int)) = false := by simp; omega
  have n32 := beq_no T[l.p] 32 32 rfl h32
  have n9 := beq_no T[l.p] 9 9 rfl h9
  have n35 := beq_no T[l.p] 35 35 rfl h35
  have n10 := beq_no T[l.p] 10 10 rfl h10
  have n59 := beq_no T[l.p] 59 59 rfl h59
  have n38 := beq_no T[l.p] 38 38 rfl h38
  have y124 := beq_yes T[l.p] 124 124 rfl hy
  clear h32 h9 h35 h10 h59 h38 hy
  clear hW h1 h hbW
  obtain ⟨q0, hq⟩ : ∃ q, q = l.p + 1 := ⟨_, rfl⟩
  rw [← hq]
  have hw : IntKind.i64.wrap ((l.p : Int) + 1) = (q0 : Int) := by rw [IntKind.wrap_i64]; omega
  have hq1 : l.p ≤ q0 := by omega
  have hq2 : q0 ≤ T.size := by omega
  clear hq
  have qf := fun w h => follows_any w A B T ⟨l.p, l.p, l.tk, l.op⟩ tv ov T[l.p] h
  dsimp only at qf
  rw [ho] at qf
  clear ho
  go_enter Tryz.func46, Tryz.ntmps46
  go_wp2_with fail
  rw [← HW.out]
  clear k1 k2 f1
  go_quiet (fail)
  have HE := hide' fun n => (H.out.drew n).setP q0 hq1 hq2
  have HB0 := hide' fun n => HBW.out.trans ((below_drewn (w := W) (B := B) n).trans (below_set (H.out.drew n) 2 (.int .i64 q0)))
  go_wp2_with fail
  go_quiet (fail)
  go_wp2_with fail
  refine (qf _ (H.out.drew _)).mono ?_
  rintro e w1 ⟨rfl, n1, rfl⟩
  clear qf
  go_wp2_with fail
  refine (tell_any 2 (HE.out _)).mono ?_
  rintro e w1 ⟨hb1, h1⟩
  have HB := hide' ((HB0.out _).trans hb1)
  clear hb1
  rcases h1 with ⟨hf, rfl⟩ | ⟨hf, rfl, h1⟩
  · refine ⟨rfl, ?_⟩
    rw [tellO_full (by exact hf)]
    exact ⟨HB.out, rfl⟩
  · go_wp2_with fail
    go_ret
    rw [tellO_room (by exact hf)]
    exact ⟨HB.out, rfl, h1⟩
set_option maxHeartbeats 1000000 in
theorem bw_124two (w : World) (A B : Nat) (T : ByteArray) (l : LS) (tv ov : Value) (h : LexAt w A B T l tv ov) (hp : l.p < T.size) (h32 : ¬ T[l.p] = 32) (h9 : ¬ T[l.p] = 9) (h35 : ¬ T[l.p] = 35) (h10 : ¬ T[l.p] = 10) (h59 : ¬ T[l.p] = 59) (h38 : ¬ T[l.p] = 38) (hy : T[l.p] = 124) (ho : foll (tl T) l.p T[l.p] = true) (hk : l.p + 2 ≤ T.size) :
    Calls Tryz.prog 46 #[.pointer (some ⟨A, 0, none⟩)] w (StepAt w A B T (tellO (tl T) 2 (atP ⟨l.p, l.p, l.tk, l.op⟩ (l.p + 1 + 1)) (.next .bw))) := by
  have k1 := h.c1
  have k2 := h.c2
  have f1 := h.fz 1
  have hsz := h.size
  obtain ⟨W, hW⟩ : ∃ W, W = w.setCell ⟨A, 1, none⟩ (.int .i64 l.p) := ⟨_, rfl⟩
  have h1 : LexAt W A B T ⟨l.p, l.p, l.tk, l.op⟩ tv ov := by rw [hW]; exact h.setF
  have hbW : Below B w W := by rw [hW]; exact below_set h 1 _
  have d0 := h1.c0
  have d2 := h1.c2
  have e2 := h1.fz 2
  dsimp only at d2
  have HW := hide' hW
  have H := hide' h1
  have HBW := hide' hbW
  have hne : ((l.p : Int) == (T.size : Int)) = false := by simp; omega
  have n32 := beq_no T[l.p] 32 32 rfl h32
  have n9 := beq_no T[l.p] 9 9 rfl h9
  have n35 := beq_no T[l.p] 35 35 rfl h35
  have n10 := beq_no T[l.p] 10 10 rfl h10
  have n59 := beq_no T[l.p] 59 59 rfl h59
  have n38 := beq_no T[l.p] 38 38 rfl h38
  have y124 := beq_yes T[l.p] 124 124 rfl hy
  clear h32 h9 h35 h10 h59 h38 hy
  clear hW h1 h hbW
  obtain ⟨q0, hq⟩ : ∃ q, q = l.p + 1 := ⟨_, rfl⟩
  rw [← hq]
  have hw : IntKind.i64.wrap ((l.p : Int) + 1) = (q0 : Int) := by rw [IntKind.wrap_i64]; omega
  have hq1 : l.p ≤ q0 := by omega
  have hq2 : q0 ≤ T.size := by omega
  clear hq
  obtain ⟨q3, hq3⟩ : ∃ q, q = q0 + 1 := ⟨_, rfl⟩
  rw [← hq3]
  have hw3 : IntKind.i64.wrap ((q0 : Int) + 1) = (q3 : Int) := by rw [IntKind.wrap_i64]; omega
  have hw' : IntKind.i64.wrap ((l.p : Int) + 1) = (q0 : Int) := hw
  have hq4 : l.p ≤ q3 := by omega
  have hq5 : q3 ≤ T.size := by
    rw [IntKind.wrap_i64] at hw
    omega
  clear hq3 hk
  have qf := fun w h => follows_any w A B T ⟨l.p, l.p, l.tk, l.op⟩ tv ov T[l.p] h
  dsimp only at qf
  rw [ho] at qf
  clear ho
  go_enter Tryz.func46, Tryz.ntmps46
  go_wp2_with fail
  rw [← HW.out]
  clear k1 k2 f1
  go_quiet (fail)
  have HE := hide' fun n => ((H.out.drew n).setP q0 hq1 hq2).setP q3 hq4 hq5
  have HB0 := hide' fun n => HBW.out.trans ((below_drewn (w := W) (B := B) n).trans ((below_set (H.out.drew n) 2 (.int .i64 q0)).trans (below_set ((H.out.drew n).setP q0 hq1 hq2) 2 (.int .i64 q3))))
  go_wp2_with fail
  go_quiet (fail)
  go_wp2_with fail
  refine (qf _ (H.out.drew _)).mono ?_
  rintro e w1 ⟨rfl, n1, rfl⟩
  clear qf
  go_wp2_with fail
  refine (tell_any 2 (HE.out _)).mono ?_
  rintro e w1 ⟨hb1, h1⟩
  have HB := hide' ((HB0.out _).trans hb1)
  clear hb1
  rcases h1 with ⟨hf, rfl⟩ | ⟨hf, rfl, h1⟩
  · refine ⟨rfl, ?_⟩
    rw [tellO_full (by exact hf)]
    exact ⟨HB.out, rfl⟩
  · go_wp2_with fail
    go_ret
    rw [tellO_room (by exact hf)]
    exact ⟨HB.out, rfl, h1⟩
set_option maxHeartbeats 1000000 in
theorem bw_62 (w : World) (A B : Nat) (T : ByteArray) (l : LS) (tv ov : Value) (h : LexAt w A B T l tv ov) (hp : l.p < T.size) (h32 : ¬ T[l.p] = 32) (h9 : ¬ T[l.p] = 9) (h35 : ¬ T[l.p] = 35) (h10 : ¬ T[l.p] = 10) (h59 : ¬ T[l.p] = 59) (h38 : ¬ T[l.p] = 38) (h124 : ¬ T[l.p] = 124) (hy : T[l.p] = 62) (ho : foll (tl T) l.p T[l.p] = false) :
    Calls Tryz.prog 46 #[.pointer (some ⟨A, 0, none⟩)] w (StepAt w A B T (tellO (tl T) 2 (atP ⟨l.p, l.p, l.tk, l.op⟩ (l.p + 1)) (.next .bw))) := by
  have k1 := h.c1
  have k2 := h.c2
  have f1 := h.fz 1
  have hsz := h.size
  obtain ⟨W, hW⟩ : ∃ W, W = w.setCell ⟨A, 1, none⟩ (.int .i64 l.p) := ⟨_, rfl⟩
  have h1 : LexAt W A B T ⟨l.p, l.p, l.tk, l.op⟩ tv ov := by rw [hW]; exact h.setF
  have hbW : Below B w W := by rw [hW]; exact below_set h 1 _
  have d0 := h1.c0
  have d2 := h1.c2
  have e2 := h1.fz 2
  dsimp only at d2
  have HW := hide' hW
  have H := hide' h1
  have HBW := hide' hbW
  have hne : ((l.p : Int) == (T.size : Int)) = false := by simp; omega
  have n32 := beq_no T[l.p] 32 32 rfl h32
  have n9 := beq_no T[l.p] 9 9 rfl h9
  have n35 := beq_no T[l.p] 35 35 rfl h35
  have n10 := beq_no T[l.p] 10 10 rfl h10
  have n59 := beq_no T[l.p] 59 59 rfl h59
  have n38 := beq_no T[l.p] 38 38 rfl h38
  have n124 := beq_no T[l.p] 124 124 rfl h124
  have y62 := beq_yes T[l.p] 62 62 rfl hy
  clear h32 h9 h35 h10 h59 h38 h124 hy
  clear hW h1 h hbW
  obtain ⟨q0, hq⟩ : ∃ q, q = l.p + 1 := ⟨_, rfl⟩
  rw [← hq]
  have hw : IntKind.i64.wrap ((l.p : Int) + 1) = (q0 : Int) := by rw [IntKind.wrap_i64]; omega
  have hq1 : l.p ≤ q0 := by omega
  have hq2 : q0 ≤ T.size := by omega
  clear hq
  have qf := fun w h => follows_any w A B T ⟨l.p, l.p, l.tk, l.op⟩ tv ov T[l.p] h
  dsimp only at qf
  rw [ho] at qf
  clear ho
  go_enter Tryz.func46, Tryz.ntmps46
  go_wp2_with fail
  rw [← HW.out]
  clear k1 k2 f1
  go_quiet (fail)
  have HE := hide' fun n => (H.out.drew n).setP q0 hq1 hq2
  have HB0 := hide' fun n => HBW.out.trans ((below_drewn (w := W) (B := B) n).trans (below_set (H.out.drew n) 2 (.int .i64 q0)))
  go_wp2_with fail
  go_quiet (fail)
  go_wp2_with fail
  refine (qf _ (H.out.drew _)).mono ?_
  rintro e w1 ⟨rfl, n1, rfl⟩
  clear qf
  go_wp2_with fail
  refine (tell_any 2 (HE.out _)).mono ?_
  rintro e w1 ⟨hb1, h1⟩
  have HB := hide' ((HB0.out _).trans hb1)
  clear hb1
  rcases h1 with ⟨hf, rfl⟩ | ⟨hf, rfl, h1⟩
  · refine ⟨rfl, ?_⟩
    rw [tellO_full (by exact hf)]
    exact ⟨HB.out, rfl⟩
  · go_wp2_with fail
    go_ret
    rw [tellO_room (by exact hf)]
    exact ⟨HB.out, rfl, h1⟩
set_option maxHeartbeats 1000000 in
theorem bw_62two (w : World) (A B : Nat) (T : ByteArray) (l : LS) (tv ov : Value) (h : LexAt w A B T l tv ov) (hp : l.p < T.size) (h32 : ¬ T[l.p] = 32) (h9 : ¬ T[l.p] = 9) (h35 : ¬ T[l.p] = 35) (h10 : ¬ T[l.p] = 10) (h59 : ¬ T[l.p] = 59) (h38 : ¬ T[l.p] = 38) (h124 : ¬ T[l.p] = 124) (hy : T[l.p] = 62) (ho : foll (tl T) l.p T[l.p] = true) (hk : l.p + 2 ≤ T.size) :
    Calls Tryz.prog 46 #[.pointer (some ⟨A, 0, none⟩)] w (StepAt w A B T (tellO (tl T) 2 (atP ⟨l.p, l.p, l.tk, l.op⟩ (l.p + 1 + 1)) (.next .bw))) := by
  have k1 := h.c1
  have k2 := h.c2
  have f1 := h.fz 1
  have hsz := h.size
  obtain ⟨W, hW⟩ : ∃ W, W = w.setCell ⟨A, 1, none⟩ (.int .i64 l.p) := ⟨_, rfl⟩
  have h1 : LexAt W A B T ⟨l.p, l.p, l.tk, l.op⟩ tv ov := by rw [hW]; exact h.setF
  have hbW : Below B w W := by rw [hW]; exact below_set h 1 _
  have d0 := h1.c0
  have d2 := h1.c2
  have e2 := h1.fz 2
  dsimp only at d2
  have HW := hide' hW
  have H := hide' h1
  have HBW := hide' hbW
  have hne : ((l.p : Int) == (T.size : Int)) = false := by simp; omega
  have n32 := beq_no T[l.p] 32 32 rfl h32
  have n9 := beq_no T[l.p] 9 9 rfl h9
  have n35 := beq_no T[l.p] 35 35 rfl h35
  have n10 := beq_no T[l.p] 10 10 rfl h10
  have n59 := beq_no T[l.p] 59 59 rfl h59
  have n38 := beq_no T[l.p] 38 38 rfl h38
  have n124 := beq_no T[l.p] 124 124 rfl h124
  have y62 := beq_yes T[l.p] 62 62 rfl hy
  clear h32 h9 h35 h10 h59 h38 h124 hy
  clear hW h1 h hbW
  obtain ⟨q0, hq⟩ : ∃ q, q = l.p + 1 := ⟨_, rfl⟩
  rw [← hq]
  have hw : IntKind.i64.wrap ((l.p : Int) + 1) = (q0 : Int) := by rw [IntKind.wrap_i64]; omega
  have hq1 : l.p ≤ q0 := by omega
  have hq2 : q0 ≤ T.size := by omega
  clear hq
  obtain ⟨q3, hq3⟩ : ∃ q, q = q0 + 1 := ⟨_, rfl⟩
  rw [← hq3]
  have hw3 : IntKind.i64.wrap ((q0 : Int) + 1) = (q3 : Int) := by rw [IntKind.wrap_i64]; omega
  have hw' : IntKind.i64.wrap ((l.p : Int) + 1) = (q0 : Int) := hw
  have hq4 : l.p ≤ q3 := by omega
  have hq5 : q3 ≤ T.size := by
    rw [IntKind.wrap_i64] at hw
    omega
  clear hq3 hk
  have qf := fun w h => follows_any w A B T ⟨l.p, l.p, l.tk, l.op⟩ tv ov T[l.p] h
  dsimp only at qf
  rw [ho] at qf
  clear ho
  go_enter Tryz.func46, Tryz.ntmps46
  go_wp2_with fail
  rw [← HW.out]
  clear k1 k2 f1
  go_quiet (fail)
  have HE := hide' fun n => ((H.out.drew n).setP q0 hq1 hq2).setP q3 hq4 hq5
  have HB0 := hide' fun n => HBW.out.trans ((below_drewn (w := W) (B := B) n).trans ((below_set (H.out.drew n) 2 (.int .i64 q0)).trans (below_set ((H.out.drew n).setP q0 hq1 hq2) 2 (.int .i64 q3))))
  go_wp2_with fail
  go_quiet (fail)
  go_wp2_with fail
  refine (qf _ (H.out.drew _)).mono ?_
  rintro e w1 ⟨rfl, n1, rfl⟩
  clear qf
  go_wp2_with fail
  refine (tell_any 2 (HE.out _)).mono ?_
  rintro e w1 ⟨hb1, h1⟩
  have HB := hide' ((HB0.out _).trans hb1)
  clear hb1
  rcases h1 with ⟨hf, rfl⟩ | ⟨hf, rfl, h1⟩
  · refine ⟨rfl, ?_⟩
    rw [tellO_full (by exact hf)]
    exact ⟨HB.out, rfl⟩
  · go_wp2_with fail
    go_ret
    rw [tellO_room (by exact hf)]
    exact ⟨HB.out, rfl, h1⟩
set_option maxHeartbeats 1000000 in
theorem bw_40 (w : World) (A B : Nat) (T : ByteArray) (l : LS) (tv ov : Value) (h : LexAt w A B T l tv ov) (hp : l.p < T.size) (h32 : ¬ T[l.p] = 32) (h9 : ¬ T[l.p] = 9) (h35 : ¬ T[l.p] = 35) (h10 : ¬ T[l.p] = 10) (h59 : ¬ T[l.p] = 59) (h38 : ¬ T[l.p] = 38) (h124 : ¬ T[l.p] = 124) (h62 : ¬ T[l.p] = 62) (hy : T[l.p] = 40)  :
    Calls Tryz.prog 46 #[.pointer (some ⟨A, 0, none⟩)] w (StepAt w A B T (tellO (tl T) 2 (atP ⟨l.p, l.p, l.tk, l.op⟩ (l.p + 1)) (.next .bw))) := by
  have k1 := h.c1
  have k2 := h.c2
  have f1 := h.fz 1
  have hsz := h.size
  obtain ⟨W, hW⟩ : ∃ W, W = w.setCell ⟨A, 1, none⟩ (.int .i64 l.p) := ⟨_, rfl⟩
  have h1 : LexAt W A B T ⟨l.p, l.p, l.tk, l.op⟩ tv ov := by rw [hW]; exact h.setF
  have hbW : Below B w W := by rw [hW]; exact below_set h 1 _
  have d0 := h1.c0
  have d2 := h1.c2
  have e2 := h1.fz 2
  dsimp only at d2
  have HW := hide' hW
  have H := hide' h1
  have HBW := hide' hbW
  have hne : ((l.p : Int) == (T.size : Int)) = false := by simp; omega
  have n32 := beq_no T[l.p] 32 32 rfl h32
  have n9 := beq_no T[l.p] 9 9 rfl h9
  have n35 := beq_no T[l.p] 35 35 rfl h35
  have n10 := beq_no T[l.p] 10 10 rfl h10
  have n59 := beq_no T[l.p] 59 59 rfl h59
  have n38 := beq_no T[l.p] 38 38 rfl h38
  have n124 := beq_no T[l.p] 124 124 rfl h124
  have n62 := beq_no T[l.p] 62 62 rfl h62
  have y40 := beq_yes T[l.p] 40 40 rfl hy
  clear h32 h9 h35 h10 h59 h38 h124 h62 hy
  clear hW h1 h hbW
  obtain ⟨q0, hq⟩ : ∃ q, q = l.p + 1 := ⟨_, rfl⟩
  rw [← hq]
  have hw : IntKind.i64.wrap ((l.p : Int) + 1) = (q0 : Int) := by rw [IntKind.wrap_i64]; omega
  have hq1 : l.p ≤ q0 := by omega
  have hq2 : q0 ≤ T.size := by omega
  clear hq
  go_enter Tryz.func46, Tryz.ntmps46
  go_wp2_with fail
  rw [← HW.out]
  clear k1 k2 f1
  go_quiet (fail)
  have HE := hide' fun n => (H.out.drew n).setP q0 hq1 hq2
  have HB0 := hide' fun n => HBW.out.trans ((below_drewn (w := W) (B := B) n).trans (below_set (H.out.drew n) 2 (.int .i64 q0)))
  go_wp2_with fail
  go_quiet (fail)
  go_wp2_with fail
  refine (tell_any 2 (HE.out _)).mono ?_
  rintro e w1 ⟨hb1, h1⟩
  have HB := hide' ((HB0.out _).trans hb1)
  clear hb1
  rcases h1 with ⟨hf, rfl⟩ | ⟨hf, rfl, h1⟩
  · refine ⟨rfl, ?_⟩
    rw [tellO_full (by exact hf)]
    exact ⟨HB.out, rfl⟩
  · go_wp2_with fail
    go_ret
    rw [tellO_room (by exact hf)]
    exact ⟨HB.out, rfl, h1⟩
set_option maxHeartbeats 1000000 in
theorem bw_41 (w : World) (A B : Nat) (T : ByteArray) (l : LS) (tv ov : Value) (h : LexAt w A B T l tv ov) (hp : l.p < T.size) (h32 : ¬ T[l.p] = 32) (h9 : ¬ T[l.p] = 9) (h35 : ¬ T[l.p] = 35) (h10 : ¬ T[l.p] = 10) (h59 : ¬ T[l.p] = 59) (h38 : ¬ T[l.p] = 38) (h124 : ¬ T[l.p] = 124) (h62 : ¬ T[l.p] = 62) (h40 : ¬ T[l.p] = 40) (hy : T[l.p] = 41)  :
    Calls Tryz.prog 46 #[.pointer (some ⟨A, 0, none⟩)] w (StepAt w A B T (tellO (tl T) 2 (atP ⟨l.p, l.p, l.tk, l.op⟩ (l.p + 1)) (.next .bw))) := by
  have k1 := h.c1
  have k2 := h.c2
  have f1 := h.fz 1
  have hsz := h.size
  obtain ⟨W, hW⟩ : ∃ W, W = w.setCell ⟨A, 1, none⟩ (.int .i64 l.p) := ⟨_, rfl⟩
  have h1 : LexAt W A B T ⟨l.p, l.p, l.tk, l.op⟩ tv ov := by rw [hW]; exact h.setF
  have hbW : Below B w W := by rw [hW]; exact below_set h 1 _
  have d0 := h1.c0
  have d2 := h1.c2
  have e2 := h1.fz 2
  dsimp only at d2
  have HW := hide' hW
  have H := hide' h1
  have HBW := hide' hbW
  have hne : ((l.p : Int) == (T.size : Int)) = false := by simp; omega
  have n32 := beq_no T[l.p] 32 32 rfl h32
  have n9 := beq_no T[l.p] 9 9 rfl h9
  have n35 := beq_no T[l.p] 35 35 rfl h35
  have n10 := beq_no T[l.p] 10 10 rfl h10
  have n59 := beq_no T[l.p] 59 59 rfl h59
  have n38 := beq_no T[l.p] 38 38 rfl h38
  have n124 := beq_no T[l.p] 124 124 rfl h124
  have n62 := beq_no T[l.p] 62 62 rfl h62
  have n40 := beq_no T[l.p] 40 40 rfl h40
  have y41 := beq_yes T[l.p] 41 41 rfl hy
  clear h32 h9 h35 h10 h59 h38 h124 h62 h40 hy
  clear hW h1 h hbW
  obtain ⟨q0, hq⟩ : ∃ q, q = l.p + 1 := ⟨_, rfl⟩
  rw [← hq]
  have hw : IntKind.i64.wrap ((l.p : Int) + 1) = (q0 : Int) := by rw [IntKind.wrap_i64]; omega
  have hq1 : l.p ≤ q0 := by omega
  have hq2 : q0 ≤ T.size := by omega
  clear hq
  go_enter Tryz.func46, Tryz.ntmps46
  go_wp2_with fail
  rw [← HW.out]
  clear k1 k2 f1
  go_quiet (fail)
  have HE := hide' fun n => (H.out.drew n).setP q0 hq1 hq2
  have HB0 := hide' fun n => HBW.out.trans ((below_drewn (w := W) (B := B) n).trans (below_set (H.out.drew n) 2 (.int .i64 q0)))
  go_wp2_with fail
  go_quiet (fail)
  go_wp2_with fail
  refine (tell_any 2 (HE.out _)).mono ?_
  rintro e w1 ⟨hb1, h1⟩
  have HB := hide' ((HB0.out _).trans hb1)
  clear hb1
  rcases h1 with ⟨hf, rfl⟩ | ⟨hf, rfl, h1⟩
  · refine ⟨rfl, ?_⟩
    rw [tellO_full (by exact hf)]
    exact ⟨HB.out, rfl⟩
  · go_wp2_with fail
    go_ret
    rw [tellO_room (by exact hf)]
    exact ⟨HB.out, rfl, h1⟩
set_option maxHeartbeats 1000000 in
theorem bw_60 (w : World) (A B : Nat) (T : ByteArray) (l : LS) (tv ov : Value) (h : LexAt w A B T l tv ov) (hp : l.p < T.size) (h32 : ¬ T[l.p] = 32) (h9 : ¬ T[l.p] = 9) (h35 : ¬ T[l.p] = 35) (h10 : ¬ T[l.p] = 10) (h59 : ¬ T[l.p] = 59) (h38 : ¬ T[l.p] = 38) (h124 : ¬ T[l.p] = 124) (h62 : ¬ T[l.p] = 62) (h40 : ¬ T[l.p] = 40) (h41 : ¬ T[l.p] = 41) (hy : T[l.p] = 60)  :
    Calls Tryz.prog 46 #[.pointer (some ⟨A, 0, none⟩)] w (StepAt w A B T (tellO (tl T) 2 (atP ⟨l.p, l.p, l.tk, l.op⟩ (l.p + 1)) (.next .bw))) := by
  have k1 := h.c1
  have k2 := h.c2
  have f1 := h.fz 1
  have hsz := h.size
  obtain ⟨W, hW⟩ : ∃ W, W = w.setCell ⟨A, 1, none⟩ (.int .i64 l.p) := ⟨_, rfl⟩
  have h1 : LexAt W A B T ⟨l.p, l.p, l.tk, l.op⟩ tv ov := by rw [hW]; exact h.setF
  have hbW : Below B w W := by rw [hW]; exact below_set h 1 _
  have d0 := h1.c0
  have d2 := h1.c2
  have e2 := h1.fz 2
  dsimp only at d2
  have HW := hide' hW
  have H := hide' h1
  have HBW := hide' hbW
  have hne : ((l.p : Int) == (T.size : Int)) = false := by simp; omega
  have n32 := beq_no T[l.p] 32 32 rfl h32
  have n9 := beq_no T[l.p] 9 9 rfl h9
  have n35 := beq_no T[l.p] 35 35 rfl h35
  have n10 := beq_no T[l.p] 10 10 rfl h10
  have n59 := beq_no T[l.p] 59 59 rfl h59
  have n38 := beq_no T[l.p] 38 38 rfl h38
  have n124 := beq_no T[l.p] 124 124 rfl h124
  have n62 := beq_no T[l.p] 62 62 rfl h62
  have n40 := beq_no T[l.p] 40 40 rfl h40
  have n41 := beq_no T[l.p] 41 41 rfl h41
  have y60 := beq_yes T[l.p] 60 60 rfl hy
  clear h32 h9 h35 h10 h59 h38 h124 h62 h40 h41 hy
  clear hW h1 h hbW
  obtain ⟨q0, hq⟩ : ∃ q, q = l.p + 1 := ⟨_, rfl⟩
  rw [← hq]
  have hw : IntKind.i64.wrap ((l.p : Int) + 1) = (q0 : Int) := by rw [IntKind.wrap_i64]; omega
  have hq1 : l.p ≤ q0 := by omega
  have hq2 : q0 ≤ T.size := by omega
  clear hq
  go_enter Tryz.func46, Tryz.ntmps46
  go_wp2_with fail
  rw [← HW.out]
  clear k1 k2 f1
  go_quiet (fail)
  have HE := hide' fun n => (H.out.drew n).setP q0 hq1 hq2
  have HB0 := hide' fun n => HBW.out.trans ((below_drewn (w := W) (B := B) n).trans (below_set (H.out.drew n) 2 (.int .i64 q0)))
  go_wp2_with fail
  go_quiet (fail)
  go_wp2_with fail
  refine (tell_any 2 (HE.out _)).mono ?_
  rintro e w1 ⟨hb1, h1⟩
  have HB := hide' ((HB0.out _).trans hb1)
  clear hb1
  rcases h1 with ⟨hf, rfl⟩ | ⟨hf, rfl, h1⟩
  · refine ⟨rfl, ?_⟩
    rw [tellO_full (by exact hf)]
    exact ⟨HB.out, rfl⟩
  · go_wp2_with fail
    go_ret
    rw [tellO_room (by exact hf)]
    exact ⟨HB.out, rfl, h1⟩
set_option maxHeartbeats 1000000 in
theorem bw_word (w : World) (A B : Nat) (T : ByteArray) (l : LS) (tv ov : Value) (h : LexAt w A B T l tv ov) (hp : l.p < T.size) (h32 : ¬ T[l.p] = 32) (h9 : ¬ T[l.p] = 9) (h35 : ¬ T[l.p] = 35) (h10 : ¬ T[l.p] = 10) (h59 : ¬ T[l.p] = 59) (h38 : ¬ T[l.p] = 38) (h124 : ¬ T[l.p] = 124) (h62 : ¬ T[l.p] = 62) (h40 : ¬ T[l.p] = 40) (h41 : ¬ T[l.p] = 41) (h60 : ¬ T[l.p] = 60)  :
    Calls Tryz.prog 46 #[.pointer (some ⟨A, 0, none⟩)] w (StepAt w A B T (.next .wd ⟨l.p, l.p, l.tk, l.op⟩)) := by
  have k1 := h.c1
  have k2 := h.c2
  have f1 := h.fz 1
  have hsz := h.size
  obtain ⟨W, hW⟩ : ∃ W, W = w.setCell ⟨A, 1, none⟩ (.int .i64 l.p) := ⟨_, rfl⟩
  have h1 : LexAt W A B T ⟨l.p, l.p, l.tk, l.op⟩ tv ov := by rw [hW]; exact h.setF
  have hbW : Below B w W := by rw [hW]; exact below_set h 1 _
  have d0 := h1.c0
  have d2 := h1.c2
  have e2 := h1.fz 2
  dsimp only at d2
  have HW := hide' hW
  have H := hide' h1
  have HBW := hide' hbW
  have hne : ((l.p : Int) == (T.size : Int)) = false := by simp; omega
  have n32 := beq_no T[l.p] 32 32 rfl h32
  have n9 := beq_no T[l.p] 9 9 rfl h9
  have n35 := beq_no T[l.p] 35 35 rfl h35
  have n10 := beq_no T[l.p] 10 10 rfl h10
  have n59 := beq_no T[l.p] 59 59 rfl h59
  have n38 := beq_no T[l.p] 38 38 rfl h38
  have n124 := beq_no T[l.p] 124 124 rfl h124
  have n62 := beq_no T[l.p] 62 62 rfl h62
  have n40 := beq_no T[l.p] 40 40 rfl h40
  have n41 := beq_no T[l.p] 41 41 rfl h41
  have n60 := beq_no T[l.p] 60 60 rfl h60
  clear h32 h9 h35 h10 h59 h38 h124 h62 h40 h41 h60
  clear hW h1 h hbW
  go_enter Tryz.func46, Tryz.ntmps46
  go_wp2_with fail
  rw [← HW.out]
  clear k1 k2 f1
  go_quiet (fail)
  go_wp2_with fail
  go_quiet (fail)
  go_wp2_with fail
  go_ret
  exact .next (HBW.out.trans (below_drewn (w := W) (B := B) _)) (H.out.drew _)
end Go.Proofs.YtcemlhfodpelaaaGreatDoor
