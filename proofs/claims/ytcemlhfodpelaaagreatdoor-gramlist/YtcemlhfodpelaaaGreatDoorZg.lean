/- The contract of gram.Parse over all texts. Texts that are joined, as the laws join them: their tokens, and what the parser tells of them: plain. The contracts of the law's same and ends. What the laws GramList and GramAround need beside: the text that is built, what Parse tells in one form, lists of texts. -/
import Derived.Test.YtcemlhfodpelaaaGreatDoorZb
import Derived.Test.YtcemlhfodpelaaaGreatDoorZl
import Derived.Test.YtcemlhfodpelaaaGreatDoorZp
import Derived.Test.YtcemlhfodpelaaaGreatDoorZs
import Derived.Test.YtcemlhfodpelaaaGreatDoorGal
namespace Go.Proofs.YtcemlhfodpelaaaGreatDoor
open Go.RowKit

/-- what Parse answers of a text -/
def gramF (s : Bs) : GR := match lexF s with
  | .toks tk => scriptP 100000 tk
  | .err n => .err n
  | .none => .none
theorem gram_some (s : Bs) : gramF s ≠ .none := by
  have h := lex_ok s
  unfold gramF
  cases hl : lexF s with
  | toks tk =>
    rw [hl] at h
    exact script_some h.2.1
  | err n => exact fun e => by cases e
  | none =>
    rw [hl] at h
    exact h.elim
theorem parse_any (s : ByteArray) (w : World) (hG : GloB w) (hE : EtW w) : Calls Tryz.prog 8 #[.string s] w (ParseR w (gramF (tl s))) := by
  have h := lex_ok (tl s)
  unfold gramF
  cases hl : lexF (tl s) with
  | toks tk =>
    rw [hl] at h
    exact parse_every s w tk 100000 hG hE hl h.1 (by decide) (script_some h.2.1) fun t ht => by have := h.2.2 t ht; omega
  | err n =>
    rw [hl] at h
    exact parse_err s w n hG hl h
  | none =>
    rw [hl] at h
    exact h.elim
end Go.Proofs.YtcemlhfodpelaaaGreatDoor
namespace Go.Proofs.YtcemlhfodpelaaaGreatDoor
open Go.RowKit

/-- the tokens of the end of a text, whatever stands ahead -/
def Lx (X : Bs) (z : List Tok) : Prop := ∀ P t0, t0.length + z.length ≤ 5000 → AtB (P ++ X) P.length t0 (.toks (t0 ++ z))
theorem lx_lex {X : Bs} {z : List Tok} (h : Lx X z) (h92 : ∀ c ∈ X, c ≠ 92) (hn : X.length ≤ 65536) (hz : z.length ≤ 5000) : lexF X = .toks z := by
  have := h [] [] (by simpa using hz)
  exact lex_of_runs h92 hn (fun e => by cases e) this
theorem get_at (P X : Bs) (i : Nat) : (P ++ X).getD (P.length + i) 0 = X.getD i 0 := by
  rw [List.getD_eq_getElem?_getD, List.getElem?_append_right (by omega), show P.length + i - P.length = i by omega, List.getD_eq_getElem?_getD]
theorem get_at0 (P X : Bs) : (P ++ X).getD P.length 0 = X.getD 0 0 := get_at P X 0
theorem lx_nil : Lx [] [(4, [])] := fun P t0 h => by
  refine ⟨1, ?_⟩
  simp only [List.length_singleton] at h
  rw [List.append_nil]
  show (match step P .bw ⟨P.length, P.length, t0, []⟩ with | .next s' l' => run P 0 s' l' | .done l' => Fin.toks l'.tk | .bad n => .err n | .stuck => .none) = _
  have : step P .bw ⟨P.length, P.length, t0, []⟩ = .done (tellS P 4 ⟨P.length, P.length, t0, []⟩) := by
    rw [step]
    unfold stepB
    rw [if_pos rfl]
    unfold tellO
    rw [if_neg (by show ¬ t0.length = 5000; omega)]
  rw [this]
  simp [tellS, piece]
theorem at_step {T : Bs} {p : Nat} {t0 : List Tok} {l : LS} {F : Fin} (h : step T .bw ⟨p, p, t0, []⟩ = .next .bw l) (ho : l.op = []) (hF : AtB T l.p l.tk F) : AtB T p t0 F := by
  refine Runs.next h ?_
  obtain ⟨f, q, tk, op⟩ := l
  dsimp only at ho hF
  subst ho
  exact bw_fr hF
theorem ne_len {P X : Bs} {c : UInt8} : ¬ P.length = (P ++ c :: X).length := by simp
theorem snoc_app (P X : Bs) (c : UInt8) : P ++ c :: X = (P ++ [c]) ++ X := by simp
theorem snoc_len (P : Bs) (c : UInt8) : (P ++ [c]).length = P.length + 1 := by simp
theorem lx_blank {X : Bs} {z : List Tok} (h : Lx X z) : Lx (32 :: X) z := fun P t0 h5 => by
  have := h (P ++ [32]) t0 h5
  rw [← snoc_app, snoc_len] at this
  refine at_step (l := ⟨P.length, P.length + 1, t0, []⟩) ?_ rfl this
  rw [step]
  unfold stepB
  dsimp only
  rw [get_at0, if_neg ne_len, if_pos (.inl rfl)]
theorem tell_one {P X : Bs} {c : UInt8} {k : Nat} {t0 : List Tok} (h5 : t0.length < 5000) : tellO (P ++ c :: X) k ⟨P.length, P.length + 1, t0, []⟩ (.next .bw) = .next .bw ⟨P.length, P.length + 1, t0 ++ [(k, [c])], []⟩ := by
  unfold tellO
  rw [if_neg (by show ¬ t0.length = 5000; omega)]
  have : piece (P ++ c :: X) ⟨P.length, P.length + 1, t0, []⟩ = [c] := by
    simp [piece]
  unfold tellS
  rw [this]
theorem lx_one {X : Bs} {c : UInt8} {k : Nat} {z : List Tok} (h : Lx X z) (hs : ∀ P t0, t0.length < 5000 → step (P ++ c :: X) .bw ⟨P.length, P.length, t0, []⟩ = tellO (P ++ c :: X) k ⟨P.length, P.length + 1, t0, []⟩ (.next .bw)) : Lx (c :: X) ((k, [c]) :: z) := fun P t0 h5 => by
  simp only [List.length_cons] at h5
  have := h (P ++ [c]) (t0 ++ [(k, [c])]) (by simp; omega)
  rw [← snoc_app, snoc_len] at this
  rw [show t0 ++ (k, [c]) :: z = t0 ++ [(k, [c])] ++ z by simp]
  refine at_step (l := ⟨P.length, P.length + 1, t0 ++ [(k, [c])], []⟩) ?_ rfl this
  rw [hs P t0 (by omega), tell_one (by omega)]
theorem lx_nl {X : Bs} {z : List Tok} (h : Lx X z) : Lx (10 :: X) (nlT :: z) := lx_one h fun P t0 h5 => by
  rw [step]
  unfold stepB
  dsimp only
  rw [get_at0, if_neg ne_len]
  rfl
theorem lx_semi {X : Bs} {z : List Tok} (hX : X.getD 0 0 ≠ 59) (h : Lx X z) : Lx (59 :: X) (smT :: z) := lx_one h fun P t0 h5 => by
  rw [step]
  unfold stepB
  dsimp only
  have e : foll (P ++ 59 :: X) P.length 59 = false := by
    unfold foll
    rw [get_at P (59 :: X) 1]
    show (_ && X.getD 0 0 == 59) = false
    rw [beq_eq_false_iff_ne.2 hX, Bool.and_false]
  rw [get_at0, if_neg ne_len]
  show (if foll (P ++ 59 :: X) P.length 59 = true then _ else _) = _
  rw [e]
  rfl
theorem lx_open {X : Bs} {z : List Tok} (h : Lx X z) : Lx (40 :: X) ((2, [40]) :: z) := lx_one h fun P t0 h5 => by
  rw [step]
  unfold stepB
  dsimp only
  rw [get_at0, if_neg ne_len]
  rfl
theorem lx_part {A X : Bs} {a z : List Tok} (hp : Pt A a) (hb : Brk X) (hz : z ≠ []) (h : Lx X z) : Lx (A ++ X) (a ++ z) := fun P t0 h5 => by
  have hz0 : 0 < z.length := List.length_pos_iff.2 hz
  rw [List.length_append] at h5
  have := h (P ++ A) (t0 ++ a) (by simp only [List.length_append]; omega)
  rw [List.length_append, List.append_assoc, List.append_assoc] at this
  refine hp.at_ P X t0 _ hb (by omega) this
/-- lines -/
def linesT : List Bs → Bs
  | [] => []
  | A :: r => A ++ 10 :: linesT r
def semisT : Bs → List Bs → Bs
  | A, [] => A
  | A, B :: r => A ++ 32 :: 59 :: 32 :: semisT B r
theorem lns_ne : ∀ (l : List (List Tok)), lnsT l ≠ []
  | [] => by simp [lnsT]
  | x :: r => by simp [lnsT]
theorem sms_ne : ∀ (x : List Tok) (l : List (List Tok)), smsT x l ≠ []
  | x, [] => by simp [smsT]
  | x, y :: r => by simp [smsT]
/-- a part: a text, its tokens, its command -/
abbrev Pc := Bs × List Tok × Cd
theorem lx_lines : ∀ (ps : List Pc), (∀ p ∈ ps, Pt p.1 p.2.1) → Lx (linesT (ps.map (·.1))) (lnsT (ps.map (·.2.1)))
  | [], _ => lx_nil
  | p :: ps, h => lx_part (h p (List.mem_cons_self ..)) (.inr ⟨10, _, rfl, .inr rfl⟩) (by simp) (lx_nl (lx_lines ps fun a ha => h a (List.mem_cons_of_mem _ ha)))
theorem lx_semis : ∀ (ps : List Pc) (p : Pc), (∀ a ∈ p :: ps, Pt a.1 a.2.1) → Lx (semisT p.1 (ps.map (·.1))) (smsT p.2.1 (ps.map (·.2.1)))
  | [], p, h => by
    have := lx_part (h p (List.mem_cons_self ..)) (.inl rfl) (by simp) lx_nil
    rw [List.append_nil] at this
    exact this
  | p2 :: ps, p, h => lx_part (h p (List.mem_cons_self ..)) (.inr ⟨32, _, rfl, .inl rfl⟩) (by simp) (lx_blank (lx_semi (by show (32 : UInt8) ≠ 59; decide) (lx_blank (lx_semis ps p2 fun a ha => h a (List.mem_cons_of_mem _ ha)))))
theorem lines_len : ∀ (ps : List Pc), (∀ p ∈ ps, Pt p.1 p.2.1 ∧ p.1.length ≤ 150) → (lnsT (ps.map (·.2.1))).length ≤ 151 * ps.length + 1 ∧ (linesT (ps.map (·.1))).length ≤ 151 * ps.length
  | [], _ => ⟨by simp [lnsT], by simp [linesT]⟩
  | p :: ps, h => by
    have ih := lines_len ps fun a ha => h a (List.mem_cons_of_mem _ ha)
    have h0 := h p (List.mem_cons_self ..)
    have h1 := h0.1.cnt
    have h2 := h0.2
    simp only [List.map_cons, lnsT, linesT, List.length_append, List.length_cons] at ih ⊢
    omega
theorem semis_len : ∀ (ps : List Pc) (p : Pc), (∀ a ∈ p :: ps, Pt a.1 a.2.1 ∧ a.1.length ≤ 150) → (smsT p.2.1 (ps.map (·.2.1))).length ≤ 153 * (ps.length + 1) ∧ (semisT p.1 (ps.map (·.1))).length ≤ 153 * (ps.length + 1)
  | [], p, h => by
    have h0 := h p (List.mem_cons_self ..)
    have h1 := h0.1.cnt
    have h2 := h0.2
    simp only [List.map_nil, smsT, semisT, List.length_append, List.length_singleton, List.length_nil]
    omega
  | p2 :: ps, p, h => by
    have ih := semis_len ps p2 fun a ha => h a (List.mem_cons_of_mem _ ha)
    have h0 := h p (List.mem_cons_self ..)
    have h1 := h0.1.cnt
    have h2 := h0.2
    simp only [List.map_cons, smsT, semisT, List.length_append, List.length_cons] at ih ⊢
    omega
theorem lines_mem {c : UInt8} : ∀ (l : List Bs), c ∈ linesT l → c = 10 ∨ ∃ A ∈ l, c ∈ A
  | [], h => by simp [linesT] at h
  | A :: r, h => by
    simp only [linesT, List.mem_append, List.mem_cons] at h
    rcases h with h | h | h
    · exact .inr ⟨A, List.mem_cons_self .., h⟩
    · exact .inl h
    · rcases lines_mem r h with h | ⟨B, hB, h⟩
      · exact .inl h
      · exact .inr ⟨B, List.mem_cons_of_mem _ hB, h⟩
theorem semis_mem {c : UInt8} : ∀ (r : List Bs) (A : Bs), c ∈ semisT A r → c = 32 ∨ c = 59 ∨ ∃ B ∈ A :: r, c ∈ B
  | [], A, h => .inr (.inr ⟨A, List.mem_cons_self .., h⟩)
  | B :: r, A, h => by
    simp only [semisT, List.mem_append, List.mem_cons] at h
    rcases h with h | h | h | h | h
    · exact .inr (.inr ⟨A, List.mem_cons_self .., h⟩)
    · exact .inl h
    · exact .inr (.inl h)
    · exact .inl h
    · rcases semis_mem r B h with h | h | ⟨C, hC, h⟩
      · exact .inl h
      · exact .inr (.inl h)
      · exact .inr (.inr ⟨C, List.mem_cons_of_mem _ hC, h⟩)
/-- what is asked of a text of the list -/
structure One (A : Bs) (c : Cd) : Prop where
  h35 : ∀ b ∈ A, b ≠ 35
  h92 : ∀ b ∈ A, b ≠ 92
  short : A.length ≤ 150
  is : gramF A = .ok [c]
/-- does a text end with a ; or a byte 10, blanks passed over? -/
def EndsS (A : Bs) : Prop := ∃ pre c bl, A = pre ++ [c] ++ bl ∧ (c = 59 ∨ c = 10) ∧ ∀ b ∈ bl, b = 32 ∨ b = 9
theorem skip_last : ∀ (r : List Tok) (b : Tok), skipL (r ++ [b]) = [] → b.2 = [10]
  | [], b, hr => by
    by_cases hb : b.2 = [10]
    · exact hb
    · simp [skipL, hb] at hr
  | a :: r, b, hr => by
    by_cases ha : a.2 = [10]
    · exact skip_last r b (by simpa [skipL, ha] using hr)
    · simp [skipL, ha] at hr
theorem one_pt {A : Bs} {c : Cd} (h : One A c) : ∃ x, Pt A x ∧ ∃ q m, PartP x c q m ∧ (q ≠ [] → EndsS A) := by
  have hg := h.is
  unfold gramF at hg
  cases hl : lexF A with
  | toks tk =>
    rw [hl] at hg
    obtain ⟨x, rfl, hx⟩ := pt_of h.h35 h.h92 hl
    have h1 := hx.cnt
    have h2 := h.short
    obtain ⟨q, m, hp⟩ := part_of hx.pr (by omega) hg
    refine ⟨x, hx, q, m, hp, fun hq => ?_⟩
    have hs : q ++ [(4, [])] <:+ skipL x ++ [(4, [])] := (sus _).andor _ _ _ (hp.par 3000 (Nat.le_refl _))
    obtain ⟨u, hu⟩ := hs
    have hu : (u ++ q) ++ [(4, [])] = skipL x ++ [(4, [])] := by simpa using hu
    have hu := List.append_cancel_right hu
    obtain ⟨v, hv⟩ := skip_suf x
    rcases hp.qok with h0 | ⟨t, r, rfl, ht, hr⟩
    · exact absurd h0 hq
    · -- the last token of q is a sep
      have hlast : ∃ t' k, t :: r = k ++ [t'] ∧ (t'.2 = [59] ∨ t'.2 = [10]) := by
        rcases List.eq_nil_or_concat r with rfl | ⟨r', b, rfl⟩
        · exact ⟨t, [], rfl, ht⟩
        · refine ⟨b, t :: r', by simp, .inr ?_⟩
          rw [List.concat_eq_append] at hr
          exact skip_last _ _ hr
      obtain ⟨t', k, e, ht'⟩ := hlast
      have hxe : x = (v ++ u ++ k) ++ [t'] := by rw [← hv, ← hu, e]; simp
      obtain ⟨pre, bl, e1, e2⟩ := hx.last t' _ hxe
      rcases ht' with ht' | ht'
      · exact ⟨pre, 59, bl, by rw [ht'] at e1; exact e1, .inl rfl, e2⟩
      · exact ⟨pre, 10, bl, by rw [ht'] at e1; exact e1, .inr rfl, e2⟩
  | err n => rw [hl] at hg; cases hg
  | none => rw [hl] at hg; cases hg
/-- texts and their commands, with tokens put in -/
theorem put_in (Q : Bs → List Tok → Cd → Prop) : ∀ (l : List (Bs × Cd)), (∀ p ∈ l, ∃ x, Q p.1 x p.2) → ∃ ps : List Pc, ps.map (·.1) = l.map (·.1) ∧ ps.map (·.2.2) = l.map (·.2) ∧ ps.length = l.length ∧ ∀ p ∈ ps, Q p.1 p.2.1 p.2.2
  | [], _ => ⟨[], rfl, rfl, rfl, fun p hp => by cases hp⟩
  | p :: l, h => by
    obtain ⟨x, hx⟩ := h p (List.mem_cons_self ..)
    obtain ⟨ps, h1, h2, h3, h4⟩ := put_in Q l fun a ha => h a (List.mem_cons_of_mem _ ha)
    refine ⟨(p.1, x, p.2) :: ps, by simp [h1], by simp [h2], by simp [h3], fun a ha => ?_⟩
    rcases List.mem_cons.1 ha with rfl | ha
    · exact hx
    · exact h4 a ha
theorem map_pair (ps : List Pc) : (ps.map fun p => (p.2.1, p.2.2)).map (·.1) = ps.map (·.2.1) ∧ (ps.map fun p => (p.2.1, p.2.2)).map (·.2) = ps.map (·.2.2) := by
  constructor <;> simp [List.map_map]
/-- commands by lines are a list of them -/
theorem gram_lines (l : List (Bs × Cd)) (hn : l.length ≤ 15) (h : ∀ p ∈ l, One p.1 p.2) : gramF (linesT (l.map (·.1))) = .ok (l.map (·.2)) := by
  obtain ⟨ps, e1, e2, e3, hq⟩ := put_in (fun A x c => One A c ∧ Pt A x ∧ ∃ q m, PartP x c q m) l fun p hp => by
    obtain ⟨x, h1, q, m, h2, -⟩ := one_pt (h p hp)
    exact ⟨x, h p hp, h1, q, m, h2⟩
  have hl := lines_len ps fun p hp => ⟨(hq p hp).2.1, (hq p hp).1.short⟩
  have hL := lx_lex (lx_lines ps fun p hp => (hq p hp).2.1) (fun c hc => by
    rcases lines_mem _ hc with rfl | ⟨A, hA, hc⟩
    · decide
    · obtain ⟨p, hp, rfl⟩ := List.mem_map.1 hA
      exact (hq p hp).1.h92 c hc) (by omega) (by omega)
  rw [← e1, ← e2]
  unfold gramF
  rw [hL]
  have := script_lines (ps.map fun p => (p.2.1, p.2.2)) (by rw [List.length_map]; omega) fun p hp => by
    obtain ⟨a, ha, rfl⟩ := List.mem_map.1 hp
    exact (hq a ha).2.2
  rw [(map_pair ps).1, (map_pair ps).2] at this
  exact this
/-- commands by ; are a list of them -/
theorem gram_semis (p : Bs × Cd) (l : List (Bs × Cd)) (hn : l.length ≤ 14) (h : ∀ a ∈ p :: l, One a.1 a.2 ∧ ¬ EndsS a.1) : gramF (semisT p.1 (l.map (·.1))) = .ok (p.2 :: l.map (·.2)) := by
  obtain ⟨ps, e1, e2, e3, hq⟩ := put_in (fun A x c => One A c ∧ Pt A x ∧ ∃ m, PartP x c [] m) (p :: l) fun p hp => by
    obtain ⟨x, h1, q, m, h2, h3⟩ := one_pt (h p hp).1
    have : q = [] := Classical.byContradiction fun e => (h p hp).2 (h3 e)
    subst this
    exact ⟨x, (h p hp).1, h1, m, h2⟩
  cases ps with
  | nil => cases e3
  | cons p' ps =>
    simp only [List.map_cons, List.cons.injEq, List.length_cons] at e1 e2 e3
    have hl := semis_len ps p' fun p hp => ⟨(hq p hp).2.1, (hq p hp).1.short⟩
    have hL := lx_lex (lx_semis ps p' fun p hp => (hq p hp).2.1) (fun c hc => by
      rcases semis_mem _ _ hc with rfl | rfl | ⟨A, hA, hc⟩
      · decide
      · decide
      · have hA : A ∈ (p' :: ps).map (·.1) := by simpa using hA
        obtain ⟨p, hp, rfl⟩ := List.mem_map.1 hA
        exact (hq p hp).1.h92 c hc) (by omega) (by omega)
    rw [← e1.1, ← e1.2, ← e2.1, ← e2.2]
    unfold gramF
    rw [hL]
    have := script_semis (ps.map fun p => (p.2.1, p.2.2)) (p'.2.1, p'.2.2) (by rw [List.length_map]; omega) fun p hp => by
      have hp : p ∈ (p' :: ps).map fun p => (p.2.1, p.2.2) := by simpa using hp
      obtain ⟨a, ha, rfl⟩ := List.mem_map.1 hp
      exact (hq a ha).2.2
    rw [(map_pair ps).1, (map_pair ps).2] at this
    exact this
end Go.Proofs.YtcemlhfodpelaaaGreatDoor
namespace Go.Proofs.YtcemlhfodpelaaaGreatDoor
open Go.RowKit

set_option maxRecDepth 100000 in
set_option maxHeartbeats 4000000 in
theorem same_walk (a b : Option Addr) (n c d : Nat) (w : World) (hn : n ≤ 9223372036854775807)
    (q4 : 0 < n → ∃ g g', a = some ⟨g, 0, none⟩ ∧ b = some ⟨g', 0, none⟩ ∧ ∀ k, k < n → ∃ v0 v1 v2 v3 v4 v5 v6 u0 u1 u2 u3 u4 u5 u6 : Value, ∀ w', Below w.heap.size w w' → (w'.cell? ⟨g, k * 7, none⟩ = some v0 ∧ w'.cell? ⟨g, k * 7 + 1, none⟩ = some v1 ∧ w'.cell? ⟨g, k * 7 + 2, none⟩ = some v2 ∧ w'.cell? ⟨g, k * 7 + 3, none⟩ = some v3 ∧ w'.cell? ⟨g, k * 7 + 4, none⟩ = some v4 ∧ w'.cell? ⟨g, k * 7 + 5, none⟩ = some v5 ∧ w'.cell? ⟨g, k * 7 + 6, none⟩ = some v6) ∧ (w'.cell? ⟨g', k * 7, none⟩ = some u0 ∧ w'.cell? ⟨g', k * 7 + 1, none⟩ = some u1 ∧ w'.cell? ⟨g', k * 7 + 2, none⟩ = some u2 ∧ w'.cell? ⟨g', k * 7 + 3, none⟩ = some u3 ∧ w'.cell? ⟨g', k * 7 + 4, none⟩ = some u4 ∧ w'.cell? ⟨g', k * 7 + 5, none⟩ = some u5 ∧ w'.cell? ⟨g', k * 7 + 6, none⟩ = some u6) ∧ Yes 12 #[.agg #[v0, v1, v2, v3, v4, v5, v6], .agg #[u0, u1, u2, u3, u4, u5, u6]] w') :
    Yes 14 #[.slice a n c, .slice b n d] w := by
  go_enter Tryz.func14, Tryz.ntmps14
  go_wp2
  go_loopw [5] (fun i wr => ∃ j : Nat, j ≤ n ∧ i = .int .i64 j ∧ Below w.heap.size w wr) (fun i _ => n - (intOf i).toNat)
  case atStart => exact ⟨0, by omega, rfl, Below.refl _ _⟩
  case round =>
    obtain ⟨j, hj, rfl, hB⟩ := hrel
    by_cases hjl : j < n
    · obtain ⟨g, g', rfl, rfl, hq⟩ := q4 (by omega)
      obtain ⟨v0, v1, v2, v3, v4, v5, v6, u0, u1, u2, u3, u4, u5, u6, hq⟩ := hq j hjl
      have hR := fun d os => hB.trans ((below_regrown wr d os).mono hB.size)
      have d0 := fun d os => (hq _ (hR d os)).1.1
      have d1 := fun d os => (hq _ (hR d os)).1.2.1
      have d2 := fun d os => (hq _ (hR d os)).1.2.2.1
      have d3 := fun d os => (hq _ (hR d os)).1.2.2.2.1
      have d4 := fun d os => (hq _ (hR d os)).1.2.2.2.2.1
      have d5 := fun d os => (hq _ (hR d os)).1.2.2.2.2.2.1
      have d6 := fun d os => (hq _ (hR d os)).1.2.2.2.2.2.2
      have f0 := fun d os => (hq _ (hR d os)).2.1.1
      have f1 := fun d os => (hq _ (hR d os)).2.1.2.1
      have f2 := fun d os => (hq _ (hR d os)).2.1.2.2.1
      have f3 := fun d os => (hq _ (hR d os)).2.1.2.2.2.1
      have f4 := fun d os => (hq _ (hR d os)).2.1.2.2.2.2.1
      have f5 := fun d os => (hq _ (hR d os)).2.1.2.2.2.2.2.1
      have f6 := fun d os => (hq _ (hR d os)).2.1.2.2.2.2.2.2
      have qk := fun d os => (hq _ (hR d os)).2.2
      have k2 : (j : Int) < n := by omega
      have HB := hide' hB
      clear hB q4 hq hR
      go_wp2
      refine wp_region_quiet_below (by kernel_rfl) (by kernel_rfl) ?_
      repeat (go_big_quiet_step ((go_at_call 12; exact Calls.regrown_of (qk _ _))))
      refine wpQuiet_nil ?_
      intro w2 hw2
      have hb2 : Below wr.heap.size wr w2 := by
        obtain ⟨p, rfl⟩ := hw2
        exact below_regrown _ _ _
      have HJ := hide' (HB.out.trans (hb2.mono HB.out.size))
      clear hw2 hb2 d0 d1 d2 d3 d4 d5 d6 f0 f1 f2 f3 f4 f5 f6 qk HB
      go_wp2
      exact ⟨⟨j + 1, by omega, by simp, HJ.out⟩, by simp [intOf]; omega⟩
    · obtain rfl : n = j := by omega
      have HB := hide' hB
      clear hB q4
      go_wp2
      go_ret
      exact ⟨rfl, HB.out⟩
/-- same, of two rows of the same commands -/
theorem same_rows {w : World} {S S' : Nat → Prop} {kv kv' : Value} {kc kc' : List (List Value)} {ks : List Cd} (h : KidsS w S kv kc ks) (h' : KidsS w S' kv' kc' ks) : Yes 14 #[kv, kv'] w := by
  have h4 := h.row
  have h4' := h'.row
  have l7 : ∀ c ∈ kc, c.length = 7 := fun c hc => by
    obtain ⟨i, hi, rfl⟩ := List.mem_iff_getElem.1 hc
    exact (h.kid i _ _ (List.getElem?_eq_getElem hi) (List.getElem?_eq_getElem (by have := h.len; omega))).len
  have l7' : ∀ c ∈ kc', c.length = 7 := fun c hc => by
    obtain ⟨i, hi, rfl⟩ := List.mem_iff_getElem.1 hc
    exact (h'.kid i _ _ (List.getElem?_eq_getElem hi) (List.getElem?_eq_getElem (by have := h'.len; omega))).len
  obtain ⟨a, c, rfl⟩ := h4.form
  obtain ⟨b, d, rfl⟩ := h4'.form
  refine same_walk a b _ c d w h4.small fun hn => ?_
  obtain ⟨g, cap, hv, -, -, hg, -, hc⟩ := row_cells h4 hn
  obtain ⟨g', cap', hv', -, -, hg', -, hc'⟩ := row_cells h4' hn
  cases hv
  cases hv'
  refine ⟨g, g', rfl, rfl, fun j hj => ?_⟩
  obtain ⟨x, hx⟩ : ∃ x, kc[j]? = some x := ⟨_, List.getElem?_eq_getElem (by have := h.len; omega)⟩
  obtain ⟨x', hx'⟩ : ∃ x, kc'[j]? = some x := ⟨_, List.getElem?_eq_getElem (by have := h'.len; omega)⟩
  have hk := List.getElem?_eq_getElem hj
  have hy := h.kid j x _ hx hk
  have hy' := h'.kid j x' _ hx' hk
  have q := fun w' (hb : Below w.heap.size w w') => same_any (hy.low hb) (hy'.low hb)
  have m : ∀ (i : Nat) u, x[i]? = some u → ∀ w', Below w.heap.size w w' → w'.cell? ⟨g, j * 7 + i, none⟩ = some u := fun i u hu w' hb => (hb.cell (p := ⟨g, _, none⟩) hg).trans (hc _ _ (getElem_flatten7 l7 hx hu))
  have m' : ∀ (i : Nat) u, x'[i]? = some u → ∀ w', Below w.heap.size w w' → w'.cell? ⟨g', j * 7 + i, none⟩ = some u := fun i u hu w' hb => (hb.cell (p := ⟨g', _, none⟩) hg').trans (hc' _ _ (getElem_flatten7 l7' hx' hu))
  obtain ⟨k1, t1, x1, x2, x3, x4, x5, m1, m2, m3, m4, m5, y1, y2, y3, y4, y5, rfl⟩ := hy.form
  obtain ⟨k1', t1', x1', x2', x3', x4', x5', m1', m2', m3', m4', m5', y1', y2', y3', y4', y5', rfl⟩ := hy'.form
  exact ⟨_, _, _, _, _, _, _, _, _, _, _, _, _, _, fun w' hb => ⟨⟨m 0 _ rfl w' hb, m 1 _ rfl w' hb, m 2 _ rfl w' hb, m 3 _ rfl w' hb, m 4 _ rfl w' hb, m 5 _ rfl w' hb, m 6 _ rfl w' hb⟩, ⟨m' 0 _ rfl w' hb, m' 1 _ rfl w' hb, m' 2 _ rfl w' hb, m' 3 _ rfl w' hb, m' 4 _ rfl w' hb, m' 5 _ rfl w' hb, m' 6 _ rfl w' hb⟩, q w' hb⟩⟩
/-- where the last byte that is no blank stands, no ; and no byte 10 -/
theorem ends_no {A : Bs} {k : Nat} (hk : k ≤ A.length) (hb : ∀ i, k ≤ i → i < A.length → A.getD i 0 = 32 ∨ A.getD i 0 = 9) (h : k = 0 ∨ (A.getD (k - 1) 0 ≠ 32 ∧ A.getD (k - 1) 0 ≠ 9 ∧ A.getD (k - 1) 0 ≠ 59 ∧ A.getD (k - 1) 0 ≠ 10)) : ¬ EndsS A := by
  rintro ⟨pre, c, bl, rfl, hc, hbl⟩
  have e1 : (pre ++ [c] ++ bl).getD pre.length 0 = c := by simp [List.getD_eq_getElem?_getD]
  have e2 : ∀ i, pre.length < i → i < (pre ++ [c] ++ bl).length → (pre ++ [c] ++ bl).getD i 0 = 32 ∨ (pre ++ [c] ++ bl).getD i 0 = 9 := fun i h1 h2 => by
    rw [List.getD_eq_getElem?_getD, List.getElem?_append_right (by simp; omega)]
    simp only [List.length_append, List.length_singleton] at h2 ⊢
    rw [List.getElem?_eq_getElem (by omega)]
    exact hbl _ (List.getElem_mem ..)
  have h1 : pre.length < k := Nat.lt_of_not_le fun hle => by
    have := hb pre.length hle (by simp)
    rw [e1] at this
    rcases hc with rfl | rfl <;> simp at this
  rcases h with rfl | ⟨h2, h3, h4, h5⟩
  · omega
  · by_cases he : k - 1 = pre.length
    · rw [he, e1] at h4 h5
      rcases hc with rfl | rfl
      · exact h4 rfl
      · exact h5 rfl
    · rcases e2 (k - 1) (by omega) (by omega) with e | e
      · exact h2 e
      · exact h3 e
def EndR (s : ByteArray) (w : World) (e : Ending) (w' : World) : Prop := w' = w ∧ ∃ b, e = .returned (.bool b) ∧ (b = false → ¬ EndsS (tl s))
set_option maxHeartbeats 4000000 in
theorem lends_any (s : ByteArray) (w : World) (hs : s.size ≤ 1000000) : Calls Tryz.prog 13 #[.string s] w (EndR s w) := by
  go_enter Tryz.func13, Tryz.ntmps13
  go_wp2
  go_loopw [3] (fun i wr => ∃ k : Nat, k ≤ s.size ∧ i = .int .i64 k ∧ Hid (∀ i, k ≤ i → i < s.size → (tl s).getD i 0 = 32 ∨ (tl s).getD i 0 = 9) ∧ wr = w) (fun i _ => (intOf i).toNat)
  case atStart => exact ⟨s.size, Nat.le_refl _, rfl, (fun i h1 h2 => by omega), rfl⟩
  case round =>
    obtain ⟨k, hk, rfl, HK, rfl⟩ := hrel
    cases k with
    | zero =>
      have HE := hide' (ends_no (A := tl s) (k := 0) (Nat.zero_le _) (by rw [tl_len]; exact HK.out) (.inl rfl))
      clear HK
      go_wp2
      go_ret
      exact ⟨rfl, _, rfl, fun _ => HE.out⟩
    | succ k =>
      have hg := getD_at s k (by omega)
      have k0 : (0 : Int) < (k : Int) + 1 := by omega
      have k9 : ((k + 1 : Nat) : Int) - 1 = k := by omega
      by_cases h1 : s[k] = 32
      · have k1 : ((s[k].toNat : Int) == 32) = true := beq_yes s[k] 32 32 rfl h1
        have k1' : (s[k].toNat : Int) = 32 := by simpa using k1
        have HN : Hid (∀ i, k ≤ i → i < s.size → (tl s).getD i 0 = 32 ∨ (tl s).getD i 0 = 9) := fun i a b => by
          by_cases e : i = k
          · subst e; exact .inl (hg.trans h1)
          · exact HK.out i (by omega) b
        clear HK h1 hg
        go_wp2
        exact ⟨⟨k, by omega, by simp, HN, by trivial⟩, by simp [intOf]⟩
      · have k1 : ((s[k].toNat : Int) == 32) = false := beq_no s[k] 32 32 rfl h1
        have k1' : ¬ (s[k].toNat : Int) = 32 := by simpa using k1
        by_cases h2 : s[k] = 9
        · have k2 : ((s[k].toNat : Int) == 9) = true := beq_yes s[k] 9 9 rfl h2
          have k2' : (s[k].toNat : Int) = 9 := by simpa using k2
          have HN : Hid (∀ i, k ≤ i → i < s.size → (tl s).getD i 0 = 32 ∨ (tl s).getD i 0 = 9) := fun i a b => by
            by_cases e : i = k
            · subst e; exact .inr (hg.trans h2)
            · exact HK.out i (by omega) b
          clear HK h1 h2 hg
          go_wp2
          exact ⟨⟨k, by omega, by simp, HN, by trivial⟩, by simp [intOf]⟩
        · have k2 : ((s[k].toNat : Int) == 9) = false := beq_no s[k] 9 9 rfl h2
          have k2' : ¬ (s[k].toNat : Int) = 9 := by simpa using k2
          by_cases h3 : s[k] = 59
          · have k3 : ((s[k].toNat : Int) == 59) = true := beq_yes s[k] 59 59 rfl h3
            have k3' : (s[k].toNat : Int) = 59 := by simpa using k3
            clear HK h1 h2 h3 hg
            go_wp2
            go_ret
            exact ⟨rfl, _, rfl, fun e => by cases e⟩
          · have k3 : ((s[k].toNat : Int) == 59) = false := beq_no s[k] 59 59 rfl h3
            have k3' : ¬ (s[k].toNat : Int) = 59 := by simpa using k3
            by_cases h4 : s[k] = 10
            · have k4 : ((s[k].toNat : Int) == 10) = true := beq_yes s[k] 10 10 rfl h4
              have k4' : (s[k].toNat : Int) = 10 := by simpa using k4
              clear HK h1 h2 h3 h4 hg
              go_wp2
              go_ret
              exact ⟨rfl, _, rfl, fun e => by cases e⟩
            · have k4 : ((s[k].toNat : Int) == 10) = false := beq_no s[k] 10 10 rfl h4
              have k4' : ¬ (s[k].toNat : Int) = 10 := by simpa using k4
              have HE := hide' (ends_no (A := tl s) (k := k + 1) (by rw [tl_len]; exact hk) (by rw [tl_len]; exact HK.out) (.inr (by rw [Nat.add_sub_cancel, hg]; exact ⟨h1, h2, h3, h4⟩)))
              clear HK h1 h2 h3 h4 hg
              go_wp2
              go_ret
              exact ⟨rfl, _, rfl, fun _ => HE.out⟩
end Go.Proofs.YtcemlhfodpelaaaGreatDoor
namespace Go.Proofs.YtcemlhfodpelaaaGreatDoor
open Go.RowKit

def pre3 : List Bs → Bs
  | [] => []
  | A :: r => A ++ [32, 59, 32] ++ pre3 r
/-- the text that is built of the first j texts -/
def jn (b : Bool) (l : List Bs) (j : Nat) : Bs := if b then linesT (l.take j) else if j < l.length then pre3 (l.take j) else pre3 (l.take (j - 1)) ++ l.getD (j - 1) []
theorem lines_snoc (A : Bs) : ∀ (l : List Bs), linesT (l ++ [A]) = linesT l ++ A ++ [10]
  | [] => by simp [linesT]
  | B :: r => by simp [linesT, lines_snoc A r]
theorem pre_snoc (A : Bs) : ∀ (l : List Bs), pre3 (l ++ [A]) = pre3 l ++ A ++ [32, 59, 32]
  | [] => by simp [pre3]
  | B :: r => by simp [pre3, pre_snoc A r]
theorem take_snoc {l : List Bs} {j : Nat} {A : Bs} (h : l[j]? = some A) : l.take (j + 1) = l.take j ++ [A] := by rw [List.take_add_one, h]; rfl
theorem jn_line {l : List Bs} {j : Nat} {A : Bs} (h : l[j]? = some A) : jn true l (j + 1) = jn true l j ++ A ++ [10] := by
  simp only [jn, if_true, take_snoc h, lines_snoc]
theorem jn_semi {l : List Bs} {j : Nat} {A : Bs} (h : l[j]? = some A) (hl : j + 1 < l.length) : jn false l (j + 1) = jn false l j ++ A ++ [32, 59, 32] := by
  simp only [jn, Bool.false_eq_true, if_false]
  rw [if_pos hl, if_pos (by omega), take_snoc h, pre_snoc]
theorem jn_last {l : List Bs} {j : Nat} {A : Bs} (h : l[j]? = some A) (hl : ¬ j + 1 < l.length) : jn false l (j + 1) = jn false l j ++ A := by
  have hj := (List.getElem?_eq_some_iff.1 h).1
  simp only [jn, Bool.false_eq_true, if_false]
  rw [if_neg hl, if_pos hj, Nat.add_sub_cancel, List.getD_eq_getElem?_getD, h]
  rfl
theorem jn_zero (b : Bool) (l : List Bs) : jn b l 0 = [] := by
  unfold jn
  cases b
  · simp only [Bool.false_eq_true, if_false]
    split
    · simp [pre3]
    · rename_i h
      have : l = [] := List.length_eq_zero_iff.1 (by omega)
      subst this
      simp [pre3]
  · simp [linesT]
theorem semis_snoc (B : Bs) : ∀ (r : List Bs) (A : Bs), semisT A (r ++ [B]) = pre3 (A :: r) ++ B
  | [], A => by simp [semisT, pre3]
  | C :: r, A => by
    have := semis_snoc B r C
    simp only [List.cons_append, semisT, this]
    simp [pre3]
/-- all of them, by ; -/
theorem jn_all : ∀ (r : List Bs) (A : Bs), jn false (A :: r) (r.length + 1) = semisT A r := fun r A => by
  simp only [jn, Bool.false_eq_true, if_false]
  rw [if_neg (by simp), Nat.add_sub_cancel]
  rcases List.eq_nil_or_concat r with rfl | ⟨r', B, rfl⟩
  · simp [pre3, semisT]
  · rw [List.concat_eq_append, semis_snoc]
    have e1 : (A :: (r' ++ [B])).take (r' ++ [B]).length = A :: r' := by simp
    have e2 : (A :: (r' ++ [B])).getD (r' ++ [B]).length [] = B := by simp [List.getD_eq_getElem?_getD]
    rw [e1, e2]
theorem jn_every (l : List Bs) : jn true l l.length = linesT l := by simp [jn]
/-- what Parse tells, in one form -/
def PForm (w : World) (R : GR) (e : Ending) (w' : World) : Prop := Below w.heap.size w w' ∧ ∃ (k : Int) (ka : Option Addr) (kn kc : Nat) (n : Int), e = .returned (.tuple #[.agg #[.int .i64 k, .bool false, .slice none 0 0, .slice none 0 0, .slice none 0 0, .slice ka kn kc, .slice none 0 0], .int .i64 n]) ∧
  (∀ l, R = .ok l → n = 0 ∧ k = 5 ∧ kn = l.length ∧ ∃ ks, KidsAt w' w.heap.size (.slice ka kn kc) ks l) ∧ (∀ m : Nat, R = .err m → n = m)
theorem parse_form (s : ByteArray) (w : World) (hG : GloB w) (hE : EtW w) : Calls Tryz.prog 8 #[.string s] w (PForm w (gramF (tl s))) := by
  refine (parse_any s w hG hE).mono ?_
  have hsome := gram_some (tl s)
  rintro e w' ⟨hb, h⟩
  refine ⟨hb, ?_⟩
  cases hR : gramF (tl s) with
  | ok l =>
    rw [hR] at h
    obtain ⟨v, rfl, kv, ks, rfl, hK⟩ := h
    obtain ⟨ka, kc, rfl⟩ := hK.row.form
    exact ⟨5, ka, l.length, kc, 0, rfl, (fun l' e => by cases e; exact ⟨rfl, rfl, rfl, ks, hK⟩), (fun m e => by cases e)⟩
  | err m =>
    rw [hR] at h
    exact ⟨0, none, 0, 0, m, h, (fun l' e => by cases e), fun m' e => by cases e; rfl⟩
  | none => exact absurd hR hsome
theorem gram_err {s : Bs} {n : Nat} (h : gramF s = .err n) : n ≠ 0 := by
  unfold gramF at h
  have hok := lex_ok s
  cases hl : lexF s with
  | toks tk =>
    rw [hl] at h
    dsimp only at h
    unfold scriptP at h
    split at h
    · cases h
    · cases h; decide
    · split at h
      · split at h
        · cases h; decide
        · cases h
      · cases h; decide
  | err m =>
    rw [hl] at h hok
    cases h
    exact hok
  | none => rw [hl] at h; cases h
/-- a list of texts that was handed in -/
def Lsx (w : World) (v : Value) (L : List ByteArray) : Prop := (∃ a c, v = .slice a 0 c ∧ L = []) ∨ ∃ g o c, v = .slice (some ⟨g, o, none⟩) L.length c ∧ g < w.heap.size ∧ ∀ (i : Nat) x, L[i]? = some x → w.cell? ⟨g, o + i, none⟩ = some (.string x)
theorem Lsx.form {w : World} {v : Value} {L : List ByteArray} (h : Lsx w v L) : ∃ a c, v = .slice a L.length c := by
  rcases h with ⟨a, c, rfl, rfl⟩ | ⟨g, o, c, rfl, _⟩
  · exact ⟨a, c, rfl⟩
  · exact ⟨_, c, rfl⟩
theorem Lsx.at_ {w : World} {v : Value} {L : List ByteArray} (h : Lsx w v L) (hn : 0 < L.length) : ∃ g o c, v = .slice (some ⟨g, o, none⟩) L.length c ∧ ∀ w', Below w.heap.size w w' → ∀ (i : Nat) x, L[i]? = some x → w'.cell? ⟨g, o + i, none⟩ = some (.string x) := by
  rcases h with ⟨a, c, rfl, rfl⟩ | ⟨g, o, c, rfl, hg, hc⟩
  · simp at hn
  · exact ⟨g, o, c, rfl, fun w' hb i x hx => (hb.cell (p := ⟨g, _, none⟩) hg).trans (hc i x hx)⟩
end Go.Proofs.YtcemlhfodpelaaaGreatDoor
