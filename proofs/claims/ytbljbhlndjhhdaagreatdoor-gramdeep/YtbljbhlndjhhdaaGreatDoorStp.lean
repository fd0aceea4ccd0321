/- The contract of every state of the lexer. -/
import Derived.Test.YtbljbhlndjhhdaaGreatDoorBt
namespace Go.Proofs.YtbljbhlndjhhdaaGreatDoor
open Go.RowKit Go.Shelf

section
variable {w : World} {A B : Nat} {T : ByteArray} {l : LS} {tv ov : Value}
theorem bw_any (h : LexAt w A B T l tv ov) : Calls Tryz.prog 46 #[.pointer (some ⟨A, 0, none⟩)] w (StepAt w A B T (step (tl T) .bw l)) := by
  have hpn := h.pn
  dsimp only [step, stepB]
  rw [tl_len]
  by_cases hp : l.p = T.size
  · rw [if_pos hp]; exact bw_end w A B T l tv ov h hp
  rw [if_neg hp]
  have hlt : l.p < T.size := by omega
  rw [getD_at T l.p hlt]
  have hk : foll (tl T) l.p T[l.p] = true → l.p + 2 ≤ T.size := fun hc => by
    unfold foll at hc
    rw [tl_len] at hc
    simp only [Bool.and_eq_true, decide_eq_true_eq] at hc
    omega
  by_cases h32 : T[l.p] = 32
  · rw [if_pos (.inl h32)]; exact bw_32 w A B T l tv ov h hlt h32
  by_cases h9 : T[l.p] = 9
  · rw [if_pos (.inr h9)]; exact bw_9 w A B T l tv ov h hlt h32 h9
  rw [if_neg (by simp [h32, h9])]
  by_cases h35 : T[l.p] = 35
  · rw [if_pos h35]; exact bw_35 w A B T l tv ov h hlt h32 h9 h35
  rw [if_neg h35]
  by_cases h10 : T[l.p] = 10
  · rw [if_pos h10]; exact bw_10 w A B T l tv ov h hlt h32 h9 h35 h10
  rw [if_neg h10]
  by_cases h59 : T[l.p] = 59
  · rw [if_pos (.inl h59)]
    cases ho : foll (tl T) l.p T[l.p] with
    | true => rw [if_pos rfl]; exact bw_59two w A B T l tv ov h hlt h32 h9 h35 h10 h59 ho (hk ho)
    | false => rw [if_neg (by decide)]; exact bw_59 w A B T l tv ov h hlt h32 h9 h35 h10 h59 ho
  by_cases h38 : T[l.p] = 38
  · rw [if_pos (.inr (.inl h38))]
    cases ho : foll (tl T) l.p T[l.p] with
    | true => rw [if_pos rfl]; exact bw_38two w A B T l tv ov h hlt h32 h9 h35 h10 h59 h38 ho (hk ho)
    | false => rw [if_neg (by decide)]; exact bw_38 w A B T l tv ov h hlt h32 h9 h35 h10 h59 h38 ho
  by_cases h124 : T[l.p] = 124
  · rw [if_pos (.inr (.inr (.inl h124)))]
    cases ho : foll (tl T) l.p T[l.p] with
    | true => rw [if_pos rfl]; exact bw_124two w A B T l tv ov h hlt h32 h9 h35 h10 h59 h38 h124 ho (hk ho)
    | false => rw [if_neg (by decide)]; exact bw_124 w A B T l tv ov h hlt h32 h9 h35 h10 h59 h38 h124 ho
  by_cases h62 : T[l.p] = 62
  · rw [if_pos (.inr (.inr (.inr h62)))]
    cases ho : foll (tl T) l.p T[l.p] with
    | true => rw [if_pos rfl]; exact bw_62two w A B T l tv ov h hlt h32 h9 h35 h10 h59 h38 h124 h62 ho (hk ho)
    | false => rw [if_neg (by decide)]; exact bw_62 w A B T l tv ov h hlt h32 h9 h35 h10 h59 h38 h124 h62 ho
  rw [if_neg (by simp [h59, h38, h124, h62])]
  by_cases h40 : T[l.p] = 40
  · rw [if_pos (.inl h40)]; exact bw_40 w A B T l tv ov h hlt h32 h9 h35 h10 h59 h38 h124 h62 h40
  by_cases h41 : T[l.p] = 41
  · rw [if_pos (.inr (.inl h41))]; exact bw_41 w A B T l tv ov h hlt h32 h9 h35 h10 h59 h38 h124 h62 h40 h41
  by_cases h60 : T[l.p] = 60
  · rw [if_pos (.inr (.inr h60))]; exact bw_60 w A B T l tv ov h hlt h32 h9 h35 h10 h59 h38 h124 h62 h40 h41 h60
  rw [if_neg (by simp [h40, h41, h60])]
  exact bw_word w A B T l tv ov h hlt h32 h9 h35 h10 h59 h38 h124 h62 h40 h41 h60
theorem st_any (s : St) (h : LexAt w A B T l tv ov) (hst : step (tl T) s l ≠ .stuck) : Calls Tryz.prog (num s) #[.pointer (some ⟨A, 0, none⟩)] w (StepAt w A B T (step (tl T) s l)) := by
  cases s with
  | bw => exact bw_any h
  | wd => exact wd_any h
  | db => exact db_any h hst
  | cm => exact cm_any h hst
  | br => exact br_any h hst
  | bq => exact bq_any h hst
end
end Go.Proofs.YtbljbhlndjhhdaaGreatDoor
