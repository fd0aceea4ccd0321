/- The contracts of the lexer's states between tokens and in a word. -/
import Derived.Test.YtbljbhlndjhhdaaGreatDoorIn
namespace Go.Proofs.YtbljbhlndjhhdaaGreatDoor
open Go.RowKit Go.Shelf
attribute [local go_sem] run_store_nilFunc run_store_func

def wends : Bs := [32, 9, 10, 59, 38, 124, 40, 41, 60, 62]
theorem wend_idx (c : UInt8) : decide (0 ≤ Lib.indexByte wends c) = wend c := by
  unfold wends wend
  have key : ∀ (L : Bs), decide (0 ≤ Lib.indexByte L c) = L.contains c := by
    intro L
    induction L with
    | nil => rfl
    | cons a r ih =>
      rw [List.contains_cons]
      unfold Lib.indexByte
      by_cases hc : a = c
      · subst hc; simp
      · have h1 : (a == c) = false := by simpa using hc
        have h2 : (c == a) = false := by simpa using fun e => hc e.symm
        rw [h1, h2, ← ih]
        have := Lib.indexByte_ge r c
        by_cases h0 : 0 ≤ Lib.indexByte r c
        · simp [h0]; split <;> omega
        · have h3 : Lib.indexByte r c = -1 := by omega
          simp [h3]
  rw [key]
  simp only [List.contains_cons, List.contains_nil, Bool.or_false, Bool.or_assoc]
theorem byteIdx (c : UInt8) (w : World) :
    Calls Tryz.prog 91 #[.string ⟨#[32, 9, 10, 59, 38, 124, 40, 41, 60, 62]⟩, .int .u8 c.toNat] w fun e w' => e = .returned (.int .i64 (Lib.indexByte wends c)) ∧ w' = w := by
  have := Tryz.strings_IndexByte ⟨#[32, 9, 10, 59, 38, 124, 40, 41, 60, 62]⟩ c.toNat w
  rw [show ((c.toNat : Int).toNat.toUInt8) = c by simp] at this
  exact this
section
variable {w : World} {A B : Nat} {T : ByteArray} {l : LS} {tv ov : Value}
/-- a token is told, and the state goes on -/
theorem tell_any (k : Nat) (h : LexAt w A B T l tv ov) : Calls Tryz.prog 68 #[.pointer (some ⟨A, 0, none⟩), .int .i64 k] w fun e w' => Below B w w' ∧ ((l.tk.length = 5000 ∧ e = panicsN 2) ∨ (¬ l.tk.length = 5000 ∧ e = .returned (.tuple #[]) ∧ ∃ tv' ov', LexAt w' A B T (tellS (tl T) k l) tv' ov')) := by
  have hnt := h.nt
  by_cases hf : l.tk.length = 5000
  · refine (tell_full w A B T l tv ov k h hf).mono ?_
    rintro e w' ⟨rfl, hb⟩
    exact ⟨hb, .inl ⟨hf, rfl⟩⟩
  · refine (tell_room w A B T l tv ov k h (by omega)).mono ?_
    rintro e w' ⟨rfl, hb, tv', h'⟩
    exact ⟨hb, .inr ⟨hf, rfl, tv', ov, h'⟩⟩
end
theorem tellO_full {T : Bs} {k : Nat} {l : LS} {f : LS → Out} (h : l.tk.length = 5000) : tellO T k l f = .bad 2 := if_pos h
theorem tellO_room {T : Bs} {k : Nat} {l : LS} {f : LS → Out} (h : ¬ l.tk.length = 5000) : tellO T k l f = f (tellS T k l) := if_neg h
set_option maxHeartbeats 1000000 in
theorem wd_tell (w : World) (A B : Nat) (T : ByteArray) (l : LS) (tv ov : Value) (h : LexAt w A B T l tv ov) (hp : l.p < T.size) (hw : wend T[l.p] = true) :
    Calls Tryz.prog 71 #[.pointer (some ⟨A, 0, none⟩)] w (StepAt w A B T (tellO (tl T) 1 l (.next .bw))) := by
  have k0 := h.c0
  have k2 := h.c2
  have H := hide' h
  have q := fun w => byteIdx T[l.p] w
  have hi := wend_idx T[l.p]
  rw [hw] at hi
  generalize Lib.indexByte wends T[l.p] = i at q hi
  have hne : ((l.p : Int) == (T.size : Int)) = false := by simp; omega
  clear h hw
  go_enter Tryz.func71, Tryz.ntmps71
  go_wp2_with fail
  go_quiet ((go_at_call 91; exact (q _).mono fun _ _ h => ⟨h.1, _, h.2⟩))
  go_wp2_with fail
  refine (tell_any 1 (H.out.drew nq)).mono ?_
  rintro e w1 ⟨hb1, h1⟩
  have HB := hide' ((below_drewn (w := w) (B := B) nq).trans hb1)
  clear hb1
  rcases h1 with ⟨hf, rfl⟩ | ⟨hf, rfl, h1⟩
  · refine ⟨rfl, ?_⟩
    rw [tellO_full hf]
    exact ⟨HB.out, rfl⟩
  · go_wp2_with fail
    go_ret
    rw [tellO_room hf]
    exact ⟨HB.out, rfl, h1⟩
set_option maxHeartbeats 1000000 in
theorem wd_end (w : World) (A B : Nat) (T : ByteArray) (l : LS) (tv ov : Value) (h : LexAt w A B T l tv ov) (hp : l.p = T.size) :
    Calls Tryz.prog 71 #[.pointer (some ⟨A, 0, none⟩)] w (StepAt w A B T (tellO (tl T) 1 l (.next .bw))) := by
  have k0 := h.c0
  have k2 := h.c2
  have H := hide' h
  have hne : ((l.p : Int) == (T.size : Int)) = true := by simp; omega
  clear h hp
  go_enter Tryz.func71, Tryz.ntmps71
  go_wp2_with fail
  go_quiet (fail)
  go_wp2_with fail
  refine (tell_any 1 (H.out.drew nq)).mono ?_
  rintro e w1 ⟨hb1, h1⟩
  have HB := hide' ((below_drewn (w := w) (B := B) nq).trans hb1)
  clear hb1
  rcases h1 with ⟨hf, rfl⟩ | ⟨hf, rfl, h1⟩
  · refine ⟨rfl, ?_⟩
    rw [tellO_full hf]
    exact ⟨HB.out, rfl⟩
  · go_wp2_with fail
    go_ret
    rw [tellO_room hf]
    exact ⟨HB.out, rfl, h1⟩
set_option maxHeartbeats 1000000 in
theorem wd_pass (w : World) (A B : Nat) (T : ByteArray) (l : LS) (tv ov : Value) (h : LexAt w A B T l tv ov) (hp : l.p < T.size) (hw : wend T[l.p] = false) (hst : passO (tl T) .wd l ≠ .stuck) :
    Calls Tryz.prog 71 #[.pointer (some ⟨A, 0, none⟩)] w (StepAt w A B T (passO (tl T) .wd l)) := by
  have k0 := h.c0
  have k2 := h.c2
  have H := hide' h
  have q := fun w => byteIdx T[l.p] w
  have hi := wend_idx T[l.p]
  rw [hw] at hi
  generalize Lib.indexByte wends T[l.p] = i at q hi
  have hne : ((l.p : Int) == (T.size : Int)) = false := by simp; omega
  have qp := fun w h => pass_any .wd w A B T l tv ov h hp
  generalize passO (tl T) .wd l = o at qp hst ⊢
  clear h hw
  go_enter Tryz.func71, Tryz.ntmps71
  go_wp2_with fail
  go_quiet ((go_at_call 91; exact (q _).mono fun _ _ h => ⟨h.1, _, h.2⟩))
  go_wp2_with fail
  refine (qp _ (H.out.drew nq)).mono ?_
  rintro e w2 ⟨hb2, h2⟩
  have HB := hide' ((below_drewn (w := w) (B := B) nq).trans hb2)
  clear hb2
  cases o with
  | next s' l' =>
    obtain ⟨rfl, h3⟩ := h2
    go_wp2_with fail
    go_ret
    exact ⟨HB.out, rfl, h3⟩
  | done l' =>
    obtain ⟨rfl, h3⟩ := h2
    go_wp2_with fail
    go_ret
    exact ⟨HB.out, rfl, h3⟩
  | bad n =>
    obtain rfl := h2
    exact ⟨rfl, HB.out, rfl⟩
  | stuck => exact absurd rfl hst
theorem pass_stuck (T : Bs) (s : St) (l : LS) : passO T s l ≠ .stuck := by
  unfold passO enterO
  intro h
  repeat' split at h
  all_goals cases h
theorem wd_any {w : World} {A B : Nat} {T : ByteArray} {l : LS} {tv ov : Value} (h : LexAt w A B T l tv ov) : Calls Tryz.prog 71 #[.pointer (some ⟨A, 0, none⟩)] w (StepAt w A B T (step (tl T) .wd l)) := by
  have hpn := h.pn
  dsimp only [step]
  rw [tl_len]
  by_cases hp : l.p = T.size
  · rw [if_pos (.inl hp)]; exact wd_end w A B T l tv ov h hp
  have hlt : l.p < T.size := by omega
  rw [getD_at T l.p hlt]
  cases hw : wend T[l.p] with
  | true => rw [if_pos (.inr rfl)]; exact wd_tell w A B T l tv ov h hlt hw
  | false => rw [if_neg (by simp [hp])]; exact wd_pass w A B T l tv ov h hlt hw (pass_stuck _ _ _)
end Go.Proofs.YtbljbhlndjhhdaaGreatDoor
