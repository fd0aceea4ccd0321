/- The contract of every state of the lexer. The contract of lex.tokensOf: the states go on, one behind the other, to the end. -/
import Derived.Test.YtcemlhfodpelaaaGreatDoorBt
import Derived.Deep.LoopGhost
namespace Go.Proofs.YtcemlhfodpelaaaGreatDoor
open Go.RowKit Go.Shelf

section
variable {w : World} {A B : Nat} {T : ByteArray} {l : LS} {tv ov : Value}
theorem bw_any (h : LexAt w A B T l tv ov) : Calls Tryz.prog 46 #[.pointer (some ⟨A, 0, none⟩)] w (StepAt w A B T (step (tl T) .bw l)) := by
  have hpn := h.pn
  dsimp only [step, stepB]
  rw [tl_len]
  by_cases hp : l.p = T.size
  · rw [if_pos hp]; exact bw_end w A B T l tv ov h hp
  rw [if_neg hp]
  have hlt : l.p < T.size := by omega
  rw [getD_at T l.p hlt]
  have hk : foll (tl T) l.p T[l.p] = true → l.p + 2 ≤ T.size := fun hc => by
    unfold foll at hc
    rw [tl_len] at hc
    simp only [Bool.and_eq_true, decide_eq_true_eq] at hc
    omega
  by_cases h32 : T[l.p] = 32
  · rw [if_pos (.inl h32)]; exact bw_32 w A B T l tv ov h hlt h32
  by_cases h9 : T[l.p] = 9
  · rw [if_pos (.inr h9)]; exact bw_9 w A B T l tv ov h hlt h32 h9
  rw [if_neg (by simp [h32, h9])]
  by_cases h35 : T[l.p] = 35
  · rw [if_pos h35]; exact bw_35 w A B T l tv ov h hlt h32 h9 h35
  rw [if_neg h35]
  by_cases h10 : T[l.p] = 10
  · rw [if_pos h10]; exact bw_10 w A B T l tv ov h hlt h32 h9 h35 h10
  rw [if_neg h10]
  by_cases h59 : T[l.p] = 59
  · rw [if_pos (.inl h59)]
    cases ho : foll (tl T) l.p T[l.p] with
    | true => rw [if_pos rfl]; exact bw_59two w A B T l tv ov h hlt h32 h9 h35 h10 h59 ho (hk ho)
    | false => rw [if_neg (by decide)]; exact bw_59 w A B T l tv ov h hlt h32 h9 h35 h10 h59 ho
  by_cases h38 : T[l.p] = 38
  · rw [if_pos (.inr (.inl h38))]
    cases ho : foll (tl T) l.p T[l.p] with
    | true => rw [if_pos rfl]; exact bw_38two w A B T l tv ov h hlt h32 h9 h35 h10 h59 h38 ho (hk ho)
    | false => rw [if_neg (by decide)]; exact bw_38 w A B T l tv ov h hlt h32 h9 h35 h10 h59 h38 ho
  by_cases h124 : T[l.p] = 124
  · rw [if_pos (.inr (.inr (.inl h124)))]
    cases ho : foll (tl T) l.p T[l.p] with
    | true => rw [if_pos rfl]; exact bw_124two w A B T l tv ov h hlt h32 h9 h35 h10 h59 h38 h124 ho (hk ho)
    | false => rw [if_neg (by decide)]; exact bw_124 w A B T l tv ov h hlt h32 h9 h35 h10 h59 h38 h124 ho
  by_cases h62 : T[l.p] = 62
  · rw [if_pos (.inr (.inr (.inr h62)))]
    cases ho : foll (tl T) l.p T[l.p] with
    | true => rw [if_pos rfl]; exact bw_62two w A B T l tv ov h hlt h32 h9 h35 h10 h59 h38 h124 h62 ho (hk ho)
    | false => rw [if_neg (by decide)]; exact bw_62 w A B T l tv ov h hlt h32 h9 h35 h10 h59 h38 h124 h62 ho
  rw [if_neg (by simp [h59, h38, h124, h62])]
  by_cases h40 : T[l.p] = 40
  · rw [if_pos (.inl h40)]; exact bw_40 w A B T l tv ov h hlt h32 h9 h35 h10 h59 h38 h124 h62 h40
  by_cases h41 : T[l.p] = 41
  · rw [if_pos (.inr (.inl h41))]; exact bw_41 w A B T l tv ov h hlt h32 h9 h35 h10 h59 h38 h124 h62 h40 h41
  by_cases h60 : T[l.p] = 60
  · rw [if_pos (.inr (.inr h60))]; exact bw_60 w A B T l tv ov h hlt h32 h9 h35 h10 h59 h38 h124 h62 h40 h41 h60
  rw [if_neg (by simp [h40, h41, h60])]
  exact bw_word w A B T l tv ov h hlt h32 h9 h35 h10 h59 h38 h124 h62 h40 h41 h60
theorem st_any (s : St) (h : LexAt w A B T l tv ov) (hst : step (tl T) s l ≠ .stuck) : Calls Tryz.prog (num s) #[.pointer (some ⟨A, 0, none⟩)] w (StepAt w A B T (step (tl T) s l)) := by
  cases s with
  | bw => exact bw_any h
  | wd => exact wd_any h
  | db => exact db_any h hst
  | cm => exact cm_any h hst
  | br => exact br_any h hst
  | bq => exact bq_any h hst
end
end Go.Proofs.YtcemlhfodpelaaaGreatDoor
namespace Go.Proofs.YtcemlhfodpelaaaGreatDoor
open Go.RowKit Go.Shelf
attribute [local go_sem] run_store_nilFunc run_store_func

/-- what the tokens are, in memory; or the error that is panicked -/
def ToksAt (w : World) (R : Fin) (e : Ending) (w' : World) : Prop :=
  Below w.heap.size w w' ∧ match R with
    | .toks l => ∃ tv, e = .returned tv ∧ w'.ownsRow w.heap.size 60 2 tv l.length (flat l) ∧ l.length ≤ 5000
    | .err n => e = panicsN n
    | .none => True
set_option maxRecDepth 100000 in
set_option maxHeartbeats 2000000 in
theorem tokens_any (w : World) (T : ByteArray) (k : Nat) (R : Fin) (hT : T.size ≤ 100000) (hg : 1 < w.heap.size ∧ ∃ m, w.cell? ⟨1, 0, none⟩ = some (.int .i64 m)) (hR : run (tl T) k .bw ⟨0, 0, [], []⟩ = R) (hne : R ≠ .none) :
    Calls Tryz.prog 27 #[.string T] w (ToksAt w R) := by
  have hneq : ∀ (s : St) (w : World), (binOp BinOp.neq 91 (fnV s) .nilFunc).run Tryz.prog w = .ok (.bool true) w := fun s w => by cases s <;> kernel_rfl
  have hneq0 : ∀ (w : World), (binOp BinOp.neq 91 .nilFunc .nilFunc).run Tryz.prog w = .ok (.bool false) w := fun w => by kernel_rfl
  obtain ⟨W, hW⟩ : ∃ W, W = w.alloc (.cells #[.string T, .int .i64 0, .int .i64 0, .slice none 0 0, .int .i64 5000, .int .i64 2, .slice none 0 0, .int .i64 60, .int .i64 42] 89) := ⟨_, rfl⟩
  have hb0 : Below w.heap.size w W := by rw [hW]; exact (Below.refl _ _).alloc (Nat.le_refl _) _
  have hblk : W.heap[w.heap.size]? = some (.cells (lexC T 0 0 (.slice none 0 0) (.slice none 0 0)) 89 (0, 0)) := by rw [hW]; exact heap_alloc_new w _
  have h0 : LexAt W w.heap.size w.heap.size T ⟨0, 0, [], []⟩ (.slice none 0 0) (.slice none 0 0) :=
    ⟨hblk, ⟨rfl, .inl ⟨rfl, rfl⟩⟩, ⟨rfl, .inl ⟨rfl, rfl⟩⟩, Nat.le_refl _, hT, Nat.le_refl _, Nat.zero_le _, Nat.zero_le _, Nat.zero_le _, hg.1, by obtain ⟨m, hm⟩ := hg.2; exact ⟨m, (hb0.cell (p := ⟨1, 0, none⟩) hg.1).trans hm⟩⟩
  have HW := hide' hW
  have H0 := hide' (And.intro hb0 h0)
  have HR := hide' hR
  clear hW hb0 hblk h0 hR hg
  go_enter Tryz.func27, Tryz.ntmps27
  go_wp2_with fail
  rw [← HW.out]
  go_loopg [4] k (fun gk f wr => Below w.heap.size w wr ∧ ((∃ s l tv ov, f = fnV s ∧ LexAt wr w.heap.size w.heap.size T l tv ov ∧ run (tl T) gk s l = R) ∨ (f = .nilFunc ∧ ∃ l tv ov, LexAt wr w.heap.size w.heap.size T l tv ov ∧ R = .toks l.tk)))
  case atStart => exact ⟨H0.out.1, .inl ⟨.bw, _, _, _, rfl, H0.out.2, HR.out⟩⟩
  obtain ⟨hbr, hrel⟩ := hrel
  have HBr := hide' hbr
  clear hbr H0 HR HW
  rcases hrel with ⟨s, l, tv, ov, rfl, hL, hrun⟩ | ⟨rfl, l, tv, ov, hL, hRt⟩
  · cases gk with
    | zero => exact absurd hrun.symm hne
    | succ gk' =>
    have hos0 : step (tl T) s l ≠ .stuck := fun e => hne (by rw [← hrun]; simp [run, e])
    obtain ⟨o, hsp⟩ : ∃ o, step (tl T) s l = o := ⟨_, rfl⟩
    have hos : o ≠ .stuck := by rw [← hsp]; exact hos0
    have HRr := hide' hrun
    clear hrun hos0
    have hneq := hneq s
    clear hneq0
    cases s with
    | bw =>
      go_wp2_with fail
      refine (st_any .bw hL (by rw [hsp]; exact hos)).mono ?_
      rintro e w2 ⟨hb2, h2⟩
      rw [hsp] at h2
      have HB := hide' (HBr.out.trans hb2)
      clear hb2
      cases o with
      | next s' l' =>
        obtain ⟨rfl, tv', ov', h3⟩ := h2
        have HR := hide' (show run (tl T) gk' s' l' = R from (run_next hsp).symm.trans HRr.out)
        have HL := hide' h3
        clear h3 hL hsp
        go_wp2_with fail
        go_roundg gk'
        case rel => exact ⟨HB.out, .inl ⟨s', l', tv', ov', rfl, HL.out, HR.out⟩⟩
        case measure => omega
      | done l' =>
        obtain ⟨rfl, tv', ov', h3⟩ := h2
        have HR := hide' (show R = .toks l'.tk from HRr.out.symm.trans (run_done hsp))
        have HL := hide' h3
        clear h3 hL hsp
        go_wp2_with fail
        go_roundg gk'
        case rel => exact ⟨HB.out, .inr ⟨rfl, l', tv', ov', HL.out, HR.out⟩⟩
        case measure => omega
      | bad n =>
        obtain rfl := h2
        have HR : R = .err n := HRr.out.symm.trans (run_bad hsp)
        refine ⟨rfl, ?_⟩
        rw [HR]
        exact ⟨HB.out, rfl⟩
      | stuck => exact absurd rfl hos
    | wd =>
      go_wp2_with fail
      refine (st_any .wd hL (by rw [hsp]; exact hos)).mono ?_
      rintro e w2 ⟨hb2, h2⟩
      rw [hsp] at h2
      have HB := hide' (HBr.out.trans hb2)
      clear hb2
      cases o with
      | next s' l' =>
        obtain ⟨rfl, tv', ov', h3⟩ := h2
        have HR := hide' (show run (tl T) gk' s' l' = R from (run_next hsp).symm.trans HRr.out)
        have HL := hide' h3
        clear h3 hL hsp
        go_wp2_with fail
        go_roundg gk'
        case rel => exact ⟨HB.out, .inl ⟨s', l', tv', ov', rfl, HL.out, HR.out⟩⟩
        case measure => omega
      | done l' =>
        obtain ⟨rfl, tv', ov', h3⟩ := h2
        have HR := hide' (show R = .toks l'.tk from HRr.out.symm.trans (run_done hsp))
        have HL := hide' h3
        clear h3 hL hsp
        go_wp2_with fail
        go_roundg gk'
        case rel => exact ⟨HB.out, .inr ⟨rfl, l', tv', ov', HL.out, HR.out⟩⟩
        case measure => omega
      | bad n =>
        obtain rfl := h2
        have HR : R = .err n := HRr.out.symm.trans (run_bad hsp)
        refine ⟨rfl, ?_⟩
        rw [HR]
        exact ⟨HB.out, rfl⟩
      | stuck => exact absurd rfl hos
    | db =>
      go_wp2_with fail
      refine (st_any .db hL (by rw [hsp]; exact hos)).mono ?_
      rintro e w2 ⟨hb2, h2⟩
      rw [hsp] at h2
      have HB := hide' (HBr.out.trans hb2)
      clear hb2
      cases o with
      | next s' l' =>
        obtain ⟨rfl, tv', ov', h3⟩ := h2
        have HR := hide' (show run (tl T) gk' s' l' = R from (run_next hsp).symm.trans HRr.out)
        have HL := hide' h3
        clear h3 hL hsp
        go_wp2_with fail
        go_roundg gk'
        case rel => exact ⟨HB.out, .inl ⟨s', l', tv', ov', rfl, HL.out, HR.out⟩⟩
        case measure => omega
      | done l' =>
        obtain ⟨rfl, tv', ov', h3⟩ := h2
        have HR := hide' (show R = .toks l'.tk from HRr.out.symm.trans (run_done hsp))
        have HL := hide' h3
        clear h3 hL hsp
        go_wp2_with fail
        go_roundg gk'
        case rel => exact ⟨HB.out, .inr ⟨rfl, l', tv', ov', HL.out, HR.out⟩⟩
        case measure => omega
      | bad n =>
        obtain rfl := h2
        have HR : R = .err n := HRr.out.symm.trans (run_bad hsp)
        refine ⟨rfl, ?_⟩
        rw [HR]
        exact ⟨HB.out, rfl⟩
      | stuck => exact absurd rfl hos
    | cm =>
      go_wp2_with fail
      refine (st_any .cm hL (by rw [hsp]; exact hos)).mono ?_
      rintro e w2 ⟨hb2, h2⟩
      rw [hsp] at h2
      have HB := hide' (HBr.out.trans hb2)
      clear hb2
      cases o with
      | next s' l' =>
        obtain ⟨rfl, tv', ov', h3⟩ := h2
        have HR := hide' (show run (tl T) gk' s' l' = R from (run_next hsp).symm.trans HRr.out)
        have HL := hide' h3
        clear h3 hL hsp
        go_wp2_with fail
        go_roundg gk'
        case rel => exact ⟨HB.out, .inl ⟨s', l', tv', ov', rfl, HL.out, HR.out⟩⟩
        case measure => omega
      | done l' =>
        obtain ⟨rfl, tv', ov', h3⟩ := h2
        have HR := hide' (show R = .toks l'.tk from HRr.out.symm.trans (run_done hsp))
        have HL := hide' h3
        clear h3 hL hsp
        go_wp2_with fail
        go_roundg gk'
        case rel => exact ⟨HB.out, .inr ⟨rfl, l', tv', ov', HL.out, HR.out⟩⟩
        case measure => omega
      | bad n =>
        obtain rfl := h2
        have HR : R = .err n := HRr.out.symm.trans (run_bad hsp)
        refine ⟨rfl, ?_⟩
        rw [HR]
        exact ⟨HB.out, rfl⟩
      | stuck => exact absurd rfl hos
    | br =>
      go_wp2_with fail
      refine (st_any .br hL (by rw [hsp]; exact hos)).mono ?_
      rintro e w2 ⟨hb2, h2⟩
      rw [hsp] at h2
      have HB := hide' (HBr.out.trans hb2)
      clear hb2
      cases o with
      | next s' l' =>
        obtain ⟨rfl, tv', ov', h3⟩ := h2
        have HR := hide' (show run (tl T) gk' s' l' = R from (run_next hsp).symm.trans HRr.out)
        have HL := hide' h3
        clear h3 hL hsp
        go_wp2_with fail
        go_roundg gk'
        case rel => exact ⟨HB.out, .inl ⟨s', l', tv', ov', rfl, HL.out, HR.out⟩⟩
        case measure => omega
      | done l' =>
        obtain ⟨rfl, tv', ov', h3⟩ := h2
        have HR := hide' (show R = .toks l'.tk from HRr.out.symm.trans (run_done hsp))
        have HL := hide' h3
        clear h3 hL hsp
        go_wp2_with fail
        go_roundg gk'
        case rel => exact ⟨HB.out, .inr ⟨rfl, l', tv', ov', HL.out, HR.out⟩⟩
        case measure => omega
      | bad n =>
        obtain rfl := h2
        have HR : R = .err n := HRr.out.symm.trans (run_bad hsp)
        refine ⟨rfl, ?_⟩
        rw [HR]
        exact ⟨HB.out, rfl⟩
      | stuck => exact absurd rfl hos
    | bq =>
      go_wp2_with fail
      refine (st_any .bq hL (by rw [hsp]; exact hos)).mono ?_
      rintro e w2 ⟨hb2, h2⟩
      rw [hsp] at h2
      have HB := hide' (HBr.out.trans hb2)
      clear hb2
      cases o with
      | next s' l' =>
        obtain ⟨rfl, tv', ov', h3⟩ := h2
        have HR := hide' (show run (tl T) gk' s' l' = R from (run_next hsp).symm.trans HRr.out)
        have HL := hide' h3
        clear h3 hL hsp
        go_wp2_with fail
        go_roundg gk'
        case rel => exact ⟨HB.out, .inl ⟨s', l', tv', ov', rfl, HL.out, HR.out⟩⟩
        case measure => omega
      | done l' =>
        obtain ⟨rfl, tv', ov', h3⟩ := h2
        have HR := hide' (show R = .toks l'.tk from HRr.out.symm.trans (run_done hsp))
        have HL := hide' h3
        clear h3 hL hsp
        go_wp2_with fail
        go_roundg gk'
        case rel => exact ⟨HB.out, .inr ⟨rfl, l', tv', ov', HL.out, HR.out⟩⟩
        case measure => omega
      | bad n =>
        obtain rfl := h2
        have HR : R = .err n := HRr.out.symm.trans (run_bad hsp)
        refine ⟨rfl, ?_⟩
        rw [HR]
        exact ⟨HB.out, rfl⟩
      | stuck => exact absurd rfl hos
  · have k3 := hL.c3
    have HL := hide' hL
    clear hL
    go_wp2_with fail
    go_ret
    rw [hRt]
    exact ⟨HBr.out, tv, rfl, HL.out.toks, HL.out.nt⟩
end Go.Proofs.YtcemlhfodpelaaaGreatDoor
