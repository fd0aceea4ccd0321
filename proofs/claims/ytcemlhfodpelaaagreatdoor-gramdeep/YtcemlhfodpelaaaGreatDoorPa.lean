/- The contract of the lexer's pass. -/
import Derived.Test.YtcemlhfodpelaaaGreatDoorZq
namespace Go.Proofs.YtcemlhfodpelaaaGreatDoor
open Go.RowKit Go.Shelf
attribute [local go_sem] run_store_nilFunc run_store_func

/-- what a step leaves -/
def StepAt (w : World) (A B : Nat) (T : ByteArray) (o : Out) (e : Ending) (w' : World) : Prop :=
  Below B w w' ∧ match o with
    | .next s l => e = .returned (fnV s) ∧ ∃ tv ov, LexAt w' A B T l tv ov
    | .done l => e = .returned .nilFunc ∧ ∃ tv ov, LexAt w' A B T l tv ov
    | .bad n => e = panicsN n
    | .stuck => True
section
variable {w : World} {A B : Nat} {T : ByteArray} {l : LS} {tv ov : Value}
theorem StepAt.next {w' : World} {s : St} (hb : Below B w w') (h : LexAt w' A B T l tv ov) : StepAt w A B T (.next s l) (.returned (fnV s)) w' := ⟨hb, rfl, tv, ov, h⟩
theorem LexAt.lowb (h : LexAt w A B T l tv ov) : B ≤ w.heap.size := by have := h.low; have := h.lt; omega
end
set_option maxHeartbeats 1000000 in
theorem pass_plain (here : St) (w : World) (A B : Nat) (T : ByteArray) (l : LS) (tv ov : Value) (h : LexAt w A B T l tv ov) (hp : l.p < T.size) (h39 : ¬ T[l.p] = 39) (h92 : ¬ T[l.p] = 92) (h34 : ¬ T[l.p] = 34) (h96 : ¬ T[l.p] = 96) (h36 : ¬ T[l.p] = 36) :
    Calls Tryz.prog 92 #[.pointer (some ⟨A, 0, none⟩), fnV here] w (StepAt w A B T (.next here (atP l (l.p + 1)))) := by
  have k0 := h.c0
  have k2 := h.c2
  have f2 := h.fz 2
  have hsz := h.size
  have hfr := h.frp
  have n39 := beq_no T[l.p] 39 39 rfl h39
  have n92 := beq_no T[l.p] 92 92 rfl h92
  have n34 := beq_no T[l.p] 34 34 rfl h34
  have n96 := beq_no T[l.p] 96 96 rfl h96
  have n36 := beq_no T[l.p] 36 36 rfl h36
  clear h39 h92 h34 h96 h36
  obtain ⟨q0, hq⟩ : ∃ q, q = l.p + 1 := ⟨_, rfl⟩
  rw [← hq]
  have hw : IntKind.i64.wrap ((l.p : Int) + 1) = (q0 : Int) := by rw [IntKind.wrap_i64]; omega
  have HE := hide' fun n => (h.drew n).setP q0 (by omega) (by omega)
  have HB := hide' fun n => (below_drewn (B := B) n).trans (below_set (h.drew n) 2 (.int .i64 q0))
  clear hq
  clear h
  go_enter Tryz.func92, Tryz.ntmps92
  go_wp2_with fail
  go_quiet (fail)
  go_wp2_with fail
  go_ret
  exact .next (HB.out _) (HE.out _)
set_option maxHeartbeats 1000000 in
theorem pass_single (here : St) (w : World) (A B : Nat) (T : ByteArray) (l : LS) (tv ov : Value) (h : LexAt w A B T l tv ov) (hp : l.p < T.size)  (hy : T[l.p] = 39) (ho : cutB ((tl T).drop (l.p + 1)) 39 = true) :
    Calls Tryz.prog 92 #[.pointer (some ⟨A, 0, none⟩), fnV here] w (StepAt w A B T (.next here (atP l (l.p + (cutN ((tl T).drop (l.p + 1)) 39 + 2))))) := by
  have k0 := h.c0
  have k2 := h.c2
  have hsz := h.size
  have H := hide' h
  have y39 := beq_yes T[l.p] 39 39 rfl hy
  clear hy
  clear h
  go_enter Tryz.func92, Tryz.ntmps92
  go_wp2_with fail
  go_quiet (fail)
  go_wp2_with fail
  refine (single_yes _ A B T l tv ov (H.out.drew _) hp ho).mono ?_
  rintro e w1 ⟨rfl, hb1, h1⟩
  have HB := hide' ((below_drewn (w := w) (B := B) _).trans hb1)
  clear hb1 ho
  go_wp2_with fail
  go_ret
  exact .next HB.out h1
set_option maxHeartbeats 1000000 in
theorem pass_singleNo (here : St) (w : World) (A B : Nat) (T : ByteArray) (l : LS) (tv ov : Value) (h : LexAt w A B T l tv ov) (hp : l.p < T.size)  (hy : T[l.p] = 39) (ho : cutB ((tl T).drop (l.p + 1)) 39 = false) :
    Calls Tryz.prog 92 #[.pointer (some ⟨A, 0, none⟩), fnV here] w (StepAt w A B T (.bad 30)) := by
  have k0 := h.c0
  have k2 := h.c2
  have hsz := h.size
  have H := hide' h
  have y39 := beq_yes T[l.p] 39 39 rfl hy
  clear hy
  clear h
  go_enter Tryz.func92, Tryz.ntmps92
  go_wp2_with fail
  go_quiet (fail)
  go_wp2_with fail
  refine (single_no _ A B T l tv ov (H.out.drew _) hp ho).mono ?_
  rintro e w1 ⟨rfl, hb1⟩
  exact ⟨rfl, (below_drewn (w := w) (B := B) _).trans (hb1.mono H.out.lowb), rfl⟩
set_option maxHeartbeats 1000000 in
theorem pass_esc (here : St) (w : World) (A B : Nat) (T : ByteArray) (l : LS) (tv ov : Value) (h : LexAt w A B T l tv ov) (hp : l.p < T.size) (h39 : ¬ T[l.p] = 39) (hy : T[l.p] = 92)  :
    Calls Tryz.prog 92 #[.pointer (some ⟨A, 0, none⟩), fnV here] w (StepAt w A B T (.next here (atP l (min (l.p + 2) T.size)))) := by
  have k0 := h.c0
  have k2 := h.c2
  have hsz := h.size
  have H := hide' h
  have n39 := beq_no T[l.p] 39 39 rfl h39
  have y92 := beq_yes T[l.p] 92 92 rfl hy
  clear h39 hy
  clear h
  go_enter Tryz.func92, Tryz.ntmps92
  go_wp2_with fail
  go_quiet (fail)
  go_wp2_with fail
  refine (esc_any _ A B T l tv ov (H.out.drew _)).mono ?_
  rintro e w1 ⟨rfl, hb1, h1⟩
  have HB := hide' ((below_drewn (w := w) (B := B) _).trans hb1)
  clear hb1
  go_wp2_with fail
  go_ret
  exact .next HB.out h1
set_option maxHeartbeats 1000000 in
theorem pass_dbl (here : St) (w : World) (A B : Nat) (T : ByteArray) (l : LS) (tv ov : Value) (h : LexAt w A B T l tv ov) (hp : l.p < T.size) (h39 : ¬ T[l.p] = 39) (h92 : ¬ T[l.p] = 92) (hy : T[l.p] = 34)  (hf : l.op.length < 60) :
    Calls Tryz.prog 92 #[.pointer (some ⟨A, 0, none⟩), fnV here] w (StepAt w A B T (.next .db ⟨l.fr, l.p + 1, l.tk, l.op ++ [here]⟩)) := by
  have k0 := h.c0
  have k2 := h.c2
  have hsz := h.size
  have H := hide' h
  have n39 := beq_no T[l.p] 39 39 rfl h39
  have n92 := beq_no T[l.p] 92 92 rfl h92
  have y34 := beq_yes T[l.p] 34 34 rfl hy
  clear h39 h92 hy
  clear h
  go_enter Tryz.func92, Tryz.ntmps92
  go_wp2_with fail
  go_quiet (fail)
  go_wp2_with fail
  have HD := H.out.drew nq
  have hbd := below_drewn (w := w) (B := B) nq
  refine (enter_room _ A B T l tv ov ⟨#[34]⟩ .db here HD hf (by have : (⟨#[34]⟩ : ByteArray).size = 1 := rfl; omega)).mono ?_
  rintro e w1 ⟨rfl, hb1, ov', h1⟩
  have HB := hide' (hbd.trans hb1)
  clear hb1 HD hbd
  go_wp2_with fail
  go_ret
  exact .next HB.out h1
set_option maxHeartbeats 1000000 in
theorem pass_dblFull (here : St) (w : World) (A B : Nat) (T : ByteArray) (l : LS) (tv ov : Value) (h : LexAt w A B T l tv ov) (hp : l.p < T.size) (h39 : ¬ T[l.p] = 39) (h92 : ¬ T[l.p] = 92) (hy : T[l.p] = 34)  (hf : l.op.length = 60) :
    Calls Tryz.prog 92 #[.pointer (some ⟨A, 0, none⟩), fnV here] w (StepAt w A B T (.bad 42)) := by
  have k0 := h.c0
  have k2 := h.c2
  have hsz := h.size
  have H := hide' h
  have n39 := beq_no T[l.p] 39 39 rfl h39
  have n92 := beq_no T[l.p] 92 92 rfl h92
  have y34 := beq_yes T[l.p] 34 34 rfl hy
  clear h39 h92 hy
  clear h
  go_enter Tryz.func92, Tryz.ntmps92
  go_wp2_with fail
  go_quiet (fail)
  go_wp2_with fail
  have HD := H.out.drew nq
  have hbd := below_drewn (w := w) (B := B) nq
  refine (enter_full _ A B T l tv ov ⟨#[34]⟩ .db here HD hf).mono ?_
  rintro e w1 ⟨rfl, hb1⟩
  exact ⟨rfl, hbd.trans (hb1.mono HD.lowb), rfl⟩
set_option maxHeartbeats 1000000 in
theorem pass_bqt (here : St) (w : World) (A B : Nat) (T : ByteArray) (l : LS) (tv ov : Value) (h : LexAt w A B T l tv ov) (hp : l.p < T.size) (h39 : ¬ T[l.p] = 39) (h92 : ¬ T[l.p] = 92) (h34 : ¬ T[l.p] = 34) (hy : T[l.p] = 96)  (hf : l.op.length < 60) :
    Calls Tryz.prog 92 #[.pointer (some ⟨A, 0, none⟩), fnV here] w (StepAt w A B T (.next .bq ⟨l.fr, l.p + 1, l.tk, l.op ++ [here]⟩)) := by
  have k0 := h.c0
  have k2 := h.c2
  have hsz := h.size
  have H := hide' h
  have n39 := beq_no T[l.p] 39 39 rfl h39
  have n92 := beq_no T[l.p] 92 92 rfl h92
  have n34 := beq_no T[l.p] 34 34 rfl h34
  have y96 := beq_yes T[l.p] 96 96 rfl hy
  clear h39 h92 h34 hy
  clear h
  go_enter Tryz.func92, Tryz.ntmps92
  go_wp2_with fail
  go_quiet (fail)
  go_wp2_with fail
  have HD := H.out.drew nq
  have hbd := below_drewn (w := w) (B := B) nq
  refine (enter_room _ A B T l tv ov ⟨#[96]⟩ .bq here HD hf (by have : (⟨#[96]⟩ : ByteArray).size = 1 := rfl; omega)).mono ?_
  rintro e w1 ⟨rfl, hb1, ov', h1⟩
  have HB := hide' (hbd.trans hb1)
  clear hb1 HD hbd
  go_wp2_with fail
  go_ret
  exact .next HB.out h1
set_option maxHeartbeats 1000000 in
theorem pass_bqtFull (here : St) (w : World) (A B : Nat) (T : ByteArray) (l : LS) (tv ov : Value) (h : LexAt w A B T l tv ov) (hp : l.p < T.size) (h39 : ¬ T[l.p] = 39) (h92 : ¬ T[l.p] = 92) (h34 : ¬ T[l.p] = 34) (hy : T[l.p] = 96)  (hf : l.op.length = 60) :
    Calls Tryz.prog 92 #[.pointer (some ⟨A, 0, none⟩), fnV here] w (StepAt w A B T (.bad 42)) := by
  have k0 := h.c0
  have k2 := h.c2
  have hsz := h.size
  have H := hide' h
  have n39 := beq_no T[l.p] 39 39 rfl h39
  have n92 := beq_no T[l.p] 92 92 rfl h92
  have n34 := beq_no T[l.p] 34 34 rfl h34
  have y96 := beq_yes T[l.p] 96 96 rfl hy
  clear h39 h92 h34 hy
  clear h
  go_enter Tryz.func92, Tryz.ntmps92
  go_wp2_with fail
  go_quiet (fail)
  go_wp2_with fail
  have HD := H.out.drew nq
  have hbd := below_drewn (w := w) (B := B) nq
  refine (enter_full _ A B T l tv ov ⟨#[96]⟩ .bq here HD hf).mono ?_
  rintro e w1 ⟨rfl, hb1⟩
  exact ⟨rfl, hbd.trans (hb1.mono HD.lowb), rfl⟩
set_option maxHeartbeats 1000000 in
theorem pass_cmd (here : St) (w : World) (A B : Nat) (T : ByteArray) (l : LS) (tv ov : Value) (h : LexAt w A B T l tv ov) (hp : l.p < T.size) (h39 : ¬ T[l.p] = 39) (h92 : ¬ T[l.p] = 92) (h34 : ¬ T[l.p] = 34) (h96 : ¬ T[l.p] = 96) (hy : T[l.p] = 36) (ho : foll (tl T) l.p 40 = true) (hf : l.op.length < 60) (hk : l.p + 2 ≤ T.size) :
    Calls Tryz.prog 92 #[.pointer (some ⟨A, 0, none⟩), fnV here] w (StepAt w A B T (.next .cm ⟨l.fr, l.p + 2, l.tk, l.op ++ [here]⟩)) := by
  have k0 := h.c0
  have k2 := h.c2
  have hsz := h.size
  have H := hide' h
  have n39 := beq_no T[l.p] 39 39 rfl h39
  have n92 := beq_no T[l.p] 92 92 rfl h92
  have n34 := beq_no T[l.p] 34 34 rfl h34
  have n96 := beq_no T[l.p] 96 96 rfl h96
  have y36 := beq_yes T[l.p] 36 36 rfl hy
  clear h39 h92 h34 h96 hy
  clear h
  go_enter Tryz.func92, Tryz.ntmps92
  go_wp2_with fail
  go_quiet (fail)
  go_wp2_with fail
  have qf := follows_any _ A B T l tv ov 40 (H.out.drew nq)
  rw [ho] at qf
  refine qf.mono ?_
  rintro e w1 ⟨rfl, n1, rfl⟩
  have HD := H.out.drew (nq + n1)
  have hbd := below_drewn (w := w) (B := B) (nq + n1)
  clear qf ho
  go_wp2_with fail
  refine (enter_room _ A B T l tv ov ⟨#[36, 40]⟩ .cm here HD hf (by have : (⟨#[36, 40]⟩ : ByteArray).size = 2 := rfl; omega)).mono ?_
  rintro e w1 ⟨rfl, hb1, ov', h1⟩
  have HB := hide' (hbd.trans hb1)
  clear hb1 HD hbd
  go_wp2_with fail
  go_ret
  exact .next HB.out h1
set_option maxHeartbeats 1000000 in
theorem pass_cmdFull (here : St) (w : World) (A B : Nat) (T : ByteArray) (l : LS) (tv ov : Value) (h : LexAt w A B T l tv ov) (hp : l.p < T.size) (h39 : ¬ T[l.p] = 39) (h92 : ¬ T[l.p] = 92) (h34 : ¬ T[l.p] = 34) (h96 : ¬ T[l.p] = 96) (hy : T[l.p] = 36) (ho : foll (tl T) l.p 40 = true) (hf : l.op.length = 60) :
    Calls Tryz.prog 92 #[.pointer (some ⟨A, 0, none⟩), fnV here] w (StepAt w A B T (.bad 42)) := by
  have k0 := h.c0
  have k2 := h.c2
  have hsz := h.size
  have H := hide' h
  have n39 := beq_no T[l.p] 39 39 rfl h39
  have n92 := beq_no T[l.p] 92 92 rfl h92
  have n34 := beq_no T[l.p] 34 34 rfl h34
  have n96 := beq_no T[l.p] 96 96 rfl h96
  have y36 := beq_yes T[l.p] 36 36 rfl hy
  clear h39 h92 h34 h96 hy
  clear h
  go_enter Tryz.func92, Tryz.ntmps92
  go_wp2_with fail
  go_quiet (fail)
  go_wp2_with fail
  have qf := follows_any _ A B T l tv ov 40 (H.out.drew nq)
  rw [ho] at qf
  refine qf.mono ?_
  rintro e w1 ⟨rfl, n1, rfl⟩
  have HD := H.out.drew (nq + n1)
  have hbd := below_drewn (w := w) (B := B) (nq + n1)
  clear qf ho
  go_wp2_with fail
  refine (enter_full _ A B T l tv ov ⟨#[36, 40]⟩ .cm here HD hf).mono ?_
  rintro e w1 ⟨rfl, hb1⟩
  exact ⟨rfl, hbd.trans (hb1.mono HD.lowb), rfl⟩
set_option maxHeartbeats 1000000 in
theorem pass_brc (here : St) (w : World) (A B : Nat) (T : ByteArray) (l : LS) (tv ov : Value) (h : LexAt w A B T l tv ov) (hp : l.p < T.size) (h39 : ¬ T[l.p] = 39) (h92 : ¬ T[l.p] = 92) (h34 : ¬ T[l.p] = 34) (h96 : ¬ T[l.p] = 96) (hy : T[l.p] = 36) (ho : foll (tl T) l.p 40 = false) (ho2 : foll (tl T) l.p 123 = true) (hf : l.op.length < 60) (hk : l.p + 2 ≤ T.size) :
    Calls Tryz.prog 92 #[.pointer (some ⟨A, 0, none⟩), fnV here] w (StepAt w A B T (.next .br ⟨l.fr, l.p + 2, l.tk, l.op ++ [here]⟩)) := by
  have k0 := h.c0
  have k2 := h.c2
  have hsz := h.size
  have H := hide' h
  have n39 := beq_no T[l.p] 39 39 rfl h39
  have n92 := beq_no T[l.p] 92 92 rfl h92
  have n34 := beq_no T[l.p] 34 34 rfl h34
  have n96 := beq_no T[l.p] 96 96 rfl h96
  have y36 := beq_yes T[l.p] 36 36 rfl hy
  clear h39 h92 h34 h96 hy
  clear h
  go_enter Tryz.func92, Tryz.ntmps92
  go_wp2_with fail
  go_quiet (fail)
  go_wp2_with fail
  have qf := follows_any _ A B T l tv ov 40 (H.out.drew nq)
  rw [ho] at qf
  refine qf.mono ?_
  rintro e w1 ⟨rfl, n1, rfl⟩
  have HD := H.out.drew (nq + n1)
  have hbd := below_drewn (w := w) (B := B) (nq + n1)
  clear qf ho
  go_wp2_with fail
  have qg := follows_any _ A B T l tv ov 123 HD
  rw [ho2] at qg
  refine qg.mono ?_
  rintro e w2 ⟨rfl, n2, rfl⟩
  have HD := H.out.drew (nq + n1 + n2)
  have hbd := below_drewn (w := w) (B := B) (nq + n1 + n2)
  clear qg ho2
  go_wp2_with fail
  refine (enter_room _ A B T l tv ov ⟨#[36, 123]⟩ .br here HD hf (by have : (⟨#[36, 123]⟩ : ByteArray).size = 2 := rfl; omega)).mono ?_
  rintro e w1 ⟨rfl, hb1, ov', h1⟩
  have HB := hide' (hbd.trans hb1)
  clear hb1 HD hbd
  go_wp2_with fail
  go_ret
  exact .next HB.out h1
set_option maxHeartbeats 1000000 in
theorem pass_brcFull (here : St) (w : World) (A B : Nat) (T : ByteArray) (l : LS) (tv ov : Value) (h : LexAt w A B T l tv ov) (hp : l.p < T.size) (h39 : ¬ T[l.p] = 39) (h92 : ¬ T[l.p] = 92) (h34 : ¬ T[l.p] = 34) (h96 : ¬ T[l.p] = 96) (hy : T[l.p] = 36) (ho : foll (tl T) l.p 40 = false) (ho2 : foll (tl T) l.p 123 = true) (hf : l.op.length = 60) :
    Calls Tryz.prog 92 #[.pointer (some ⟨A, 0, none⟩), fnV here] w (StepAt w A B T (.bad 42)) := by
  have k0 := h.c0
  have k2 := h.c2
  have hsz := h.size
  have H := hide' h
  have n39 := beq_no T[l.p] 39 39 rfl h39
  have n92 := beq_no T[l.p] 92 92 rfl h92
  have n34 := beq_no T[l.p] 34 34 rfl h34
  have n96 := beq_no T[l.p] 96 96 rfl h96
  have y36 := beq_yes T[l.p] 36 36 rfl hy
  clear h39 h92 h34 h96 hy
  clear h
  go_enter Tryz.func92, Tryz.ntmps92
  go_wp2_with fail
  go_quiet (fail)
  go_wp2_with fail
  have qf := follows_any _ A B T l tv ov 40 (H.out.drew nq)
  rw [ho] at qf
  refine qf.mono ?_
  rintro e w1 ⟨rfl, n1, rfl⟩
  have HD := H.out.drew (nq + n1)
  have hbd := below_drewn (w := w) (B := B) (nq + n1)
  clear qf ho
  go_wp2_with fail
  have qg := follows_any _ A B T l tv ov 123 HD
  rw [ho2] at qg
  refine qg.mono ?_
  rintro e w2 ⟨rfl, n2, rfl⟩
  have HD := H.out.drew (nq + n1 + n2)
  have hbd := below_drewn (w := w) (B := B) (nq + n1 + n2)
  clear qg ho2
  go_wp2_with fail
  refine (enter_full _ A B T l tv ov ⟨#[36, 123]⟩ .br here HD hf).mono ?_
  rintro e w1 ⟨rfl, hb1⟩
  exact ⟨rfl, hbd.trans (hb1.mono HD.lowb), rfl⟩
set_option maxHeartbeats 1000000 in
theorem pass_dol (here : St) (w : World) (A B : Nat) (T : ByteArray) (l : LS) (tv ov : Value) (h : LexAt w A B T l tv ov) (hp : l.p < T.size) (h39 : ¬ T[l.p] = 39) (h92 : ¬ T[l.p] = 92) (h34 : ¬ T[l.p] = 34) (h96 : ¬ T[l.p] = 96) (hy : T[l.p] = 36) (ho : foll (tl T) l.p 40 = false) (ho2 : foll (tl T) l.p 123 = false) :
    Calls Tryz.prog 92 #[.pointer (some ⟨A, 0, none⟩), fnV here] w (StepAt w A B T (.next here (atP l (l.p + 1)))) := by
  have k0 := h.c0
  have k2 := h.c2
  have hsz := h.size
  have H := hide' h
  have n39 := beq_no T[l.p] 39 39 rfl h39
  have n92 := beq_no T[l.p] 92 92 rfl h92
  have n34 := beq_no T[l.p] 34 34 rfl h34
  have n96 := beq_no T[l.p] 96 96 rfl h96
  have y36 := beq_yes T[l.p] 36 36 rfl hy
  clear h39 h92 h34 h96 hy
  have f2 := h.fz 2
  have hfr := h.frp
  obtain ⟨q0, hq⟩ : ∃ q, q = l.p + 1 := ⟨_, rfl⟩
  rw [← hq]
  have hw : IntKind.i64.wrap ((l.p : Int) + 1) = (q0 : Int) := by rw [IntKind.wrap_i64]; omega
  have hq1 : l.fr ≤ q0 := by omega
  have hq2 : q0 ≤ T.size := by omega
  clear hq
  clear h
  go_enter Tryz.func92, Tryz.ntmps92
  go_wp2_with fail
  go_quiet (fail)
  go_wp2_with fail
  have qf := follows_any _ A B T l tv ov 40 (H.out.drew nq)
  rw [ho] at qf
  refine qf.mono ?_
  rintro e w1 ⟨rfl, n1, rfl⟩
  have HD := H.out.drew (nq + n1)
  have hbd := below_drewn (w := w) (B := B) (nq + n1)
  clear qf ho
  go_wp2_with fail
  have qg := follows_any _ A B T l tv ov 123 HD
  rw [ho2] at qg
  refine qg.mono ?_
  rintro e w2 ⟨rfl, n2, rfl⟩
  have HD := H.out.drew (nq + n1 + n2)
  have hbd := below_drewn (w := w) (B := B) (nq + n1 + n2)
  have HE := hide' (HD.setP q0 hq1 hq2)
  have HB := hide' (hbd.trans (below_set HD 2 (.int .i64 q0)))
  clear qg ho2 HD hbd
  go_wp2_with fail
  go_ret
  exact .next HB.out HE.out
theorem pass_any (here : St) (w : World) (A B : Nat) (T : ByteArray) (l : LS) (tv ov : Value) (h : LexAt w A B T l tv ov) (hp : l.p < T.size) :
    Calls Tryz.prog 92 #[.pointer (some ⟨A, 0, none⟩), fnV here] w (StepAt w A B T (passO (tl T) here l)) := by
  have hno := h.no
  unfold passO
  rw [getD_at T l.p hp, tl_len]
  by_cases h39 : T[l.p] = 39
  · rw [if_pos h39]
    cases ho : cutB ((tl T).drop (l.p + 1)) 39 with
    | true => rw [if_pos rfl]; exact pass_single here w A B T l tv ov h hp h39 ho
    | false => rw [if_neg (by decide)]; exact pass_singleNo here w A B T l tv ov h hp h39 ho
  rw [if_neg h39]
  by_cases h92 : T[l.p] = 92
  · rw [if_pos h92]; exact pass_esc here w A B T l tv ov h hp h39 h92
  rw [if_neg h92]
  by_cases h34 : T[l.p] = 34
  · rw [if_pos h34]
    unfold enterO
    by_cases hf : l.op.length = 60
    · rw [if_pos hf]; exact pass_dblFull here w A B T l tv ov h hp h39 h92 h34 hf
    · rw [if_neg hf]; exact pass_dbl here w A B T l tv ov h hp h39 h92 h34 (by omega)
  rw [if_neg h34]
  by_cases h96 : T[l.p] = 96
  · rw [if_pos h96]
    unfold enterO
    by_cases hf : l.op.length = 60
    · rw [if_pos hf]; exact pass_bqtFull here w A B T l tv ov h hp h39 h92 h34 h96 hf
    · rw [if_neg hf]; exact pass_bqt here w A B T l tv ov h hp h39 h92 h34 h96 (by omega)
  rw [if_neg h96]
  by_cases h36 : T[l.p] = 36
  · rw [if_pos h36]
    have hk : ∀ c, foll (tl T) l.p c = true → l.p + 2 ≤ T.size := fun c hc => by
      unfold foll at hc
      rw [tl_len] at hc
      simp only [Bool.and_eq_true, decide_eq_true_eq] at hc
      omega
    cases ho : foll (tl T) l.p 40 with
    | true =>
      rw [if_pos rfl]
      unfold enterO
      by_cases hf : l.op.length = 60
      · rw [if_pos hf]; exact pass_cmdFull here w A B T l tv ov h hp h39 h92 h34 h96 h36 ho hf
      · rw [if_neg hf]; exact pass_cmd here w A B T l tv ov h hp h39 h92 h34 h96 h36 ho (by omega) (hk _ ho)
    | false =>
      rw [if_neg (by decide)]
      cases ho2 : foll (tl T) l.p 123 with
      | true =>
        rw [if_pos rfl]
        unfold enterO
        by_cases hf : l.op.length = 60
        · rw [if_pos hf]; exact pass_brcFull here w A B T l tv ov h hp h39 h92 h34 h96 h36 ho ho2 hf
        · rw [if_neg hf]; exact pass_brc here w A B T l tv ov h hp h39 h92 h34 h96 h36 ho ho2 (by omega) (hk _ ho2)
      | false => rw [if_neg (by decide)]; exact pass_dol here w A B T l tv ov h hp h39 h92 h34 h96 h36 ho ho2
  rw [if_neg h36]
  exact pass_plain here w A B T l tv ov h hp h39 h92 h34 h96 h36
end Go.Proofs.YtcemlhfodpelaaaGreatDoor
