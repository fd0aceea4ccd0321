/- How the reference takes an archive's bytes apart: plain. -/
import Derived.Test.YtcijjigafcpcpaaGreatDoorPz
namespace Go.Proofs.YtcijjigafcpcpaaGreatDoor

/-- the number at a field's beginning -/
def digR (s : Bs) : Option Nat :=
  if s.takeWhile (· != 32) = [] ∨ 12 < (s.takeWhile (· != 32)).length then none
  else if (s.takeWhile (· != 32)).all dgtB = true then some (numF 0 (s.takeWhile (· != 32))) else none
def rdat (s : Bs) : Int := match digR s with | some n => (n : Int) | none => -1
def rnmP (nm t : Bs) : Option Bs :=
  if Lib.hasPrefix nm [47] = true then match digR (nm.drop 1) with
    | none => none
    | some j => if j ≤ t.length then (if (Lib.cut (t.drop j) [47, 10]).2.2 = true then some (Lib.cut (t.drop j) [47, 10]).1 else none) else none
  else if 47 ∈ nm then some (nm.takeWhile (· != 47)) else none
/-- f: nothing has been taken yet; t: the table; r: what is left; l: what was told -/
def rscanP : Nat → Bool → Bs → Bs → List Mm → Option (List Mm)
  | 0, _, r, _, l => if r.length < 60 then some l else none
  | k + 1, f, r, t, l => if r.length < 60 then some l else match digR ((r.drop 48).take 10) with
    | none => none
    | some n => if n ≤ (r.drop 60).length then
        (if f = true ∧ r.take 16 = pad 16 [47, 47] then rscanP k false ((r.drop 60).drop (evn n)) ((r.drop 60).take n) l
         else match rnmP (r.take 16) t with
          | none => none
          | some nm => rscanP k false ((r.drop 60).drop (evn n)) t (l ++ [(nm, rdat ((r.drop 16).take 12), (r.drop 60).take n)]))
      else none
theorem tw_pad (n : Nat) (x : Bs) (c : UInt8) (hc : c = 32) (h : ∀ z ∈ x, z ≠ c) : (pad n x).takeWhile (· != c) = x := by
  subst hc
  unfold pad
  rw [List.takeWhile_append_of_pos fun z hz => by simpa using h z hz]
  have : (List.replicate (n - x.length) (32 : UInt8)).takeWhile (· != 32) = [] := by
    cases n - x.length with
    | zero => rfl
    | succ k => rw [List.replicate_succ, List.takeWhile_cons_of_neg (by simp)]
  rw [this, List.append_nil]
theorem dig_pad (n u : Nat) (hu : u ≤ 999999999999) : digR (pad n (Lib.decDigits u)) = some u := by
  have hd := decDigits_dgt u
  have ht := tw_pad n (Lib.decDigits u) 32 rfl fun z hz e => by
    have := hd z hz
    rw [e] at this
    exact absurd this.1 (by decide)
  have hv := valP_dec u hu
  have hl := zdec_len u 11 (by omega)
  unfold valP at hv
  unfold digR
  rw [ht]
  split at hv
  · cases hv
  · rename_i h1
    rw [if_neg (fun h => by rcases h with h | h; exact h1 h; omega)]
    exact hv
theorem rnm_short (b t : Bs) (h : nmb b = true) : rnmP (pad 16 (b ++ [47])) t = some b := by
  obtain ⟨h1, h2, h3⟩ := nmb_parts h
  cases b with
  | nil => exact absurd rfl h1
  | cons a r =>
    have ha : ((47 : UInt8) == a) = false := by simpa using fun e => h3 a (by simp) e.symm
    have e : pad 16 (a :: r ++ [47]) = a :: r ++ 47 :: List.replicate (16 - (a :: r ++ [47]).length) 32 := by
      unfold pad; simp
    rw [e]
    unfold rnmP
    rw [if_neg (by simp [Lib.hasPrefix, List.isPrefixOf, ha]), if_pos (by simp)]
    rw [List.takeWhile_append_of_pos fun z hz => by simpa using h3 z hz, List.takeWhile_cons_of_neg (by simp), List.append_nil]
theorem rnm_long (b A B : Bs) (h : nmb b = true) (hA : A.length ≤ 999999999999) : rnmP (pad 16 (47 :: dec (A.length : Nat))) (A ++ (b ++ [47, 10]) ++ B) = some b := by
  obtain ⟨h1, h2, h3⟩ := nmb_parts h
  rw [zdec_nat]
  have e : pad 16 (47 :: Lib.decDigits A.length) = 47 :: pad 15 (Lib.decDigits A.length) := by
    unfold pad
    rw [List.cons_append, List.length_cons]
    congr 2
    congr 1
    omega
  rw [e]
  unfold rnmP
  rw [if_pos (by simp [Lib.hasPrefix, List.isPrefixOf])]
  simp only [List.drop_succ_cons, List.drop_zero]
  rw [dig_pad 15 _ hA]
  dsimp only
  have hc := cut2_at b B h3
  have hd : (A ++ (b ++ [47, 10]) ++ B).drop A.length = b ++ 47 :: 10 :: B := by rw [List.append_assoc, List.drop_left' rfl]; simp
  rw [if_pos (by simp), hd, if_pos hc.1, hc.2]
/-- a head's columns and its data -/
theorem head_parts (a b c d e : Bs) (u : Nat) (x r : Bs) (ha : a.length ≤ 16) (hb : b.length ≤ 12) (hc : c.length ≤ 6) (hd : d.length ≤ 6) (he : e.length ≤ 8) (hu : u = x.length) (hu' : u < 10000000000) (H : Bs) (hH : H = headB a b c d e (Lib.decDigits u) ++ dataB x ++ r) :
    ¬ H.length < 60 ∧ H.take 16 = pad 16 a ∧ (H.drop 16).take 12 = pad 12 b ∧ (H.drop 48).take 10 = pad 10 (Lib.decDigits u) ∧ u ≤ (H.drop 60).length ∧ (H.drop 60).take u = x ∧ (H.drop 60).drop (evn u) = r := by
  have l6 := zdec_len u 9 (by simpa using hu')
  have e1 : headB a b c d e (Lib.decDigits u) ++ dataB x ++ r = pad 16 a ++ (pad 12 b ++ (pad 6 c ++ pad 6 d ++ pad 8 e ++ (pad 10 (Lib.decDigits u) ++ ([96, 10] ++ (dataB x ++ r))))) := by
    unfold headB; simp only [List.append_assoc]
  have p1 := zpad_len 16 a ha
  have p2 := zpad_len 12 b hb
  have p3 := zpad_len 6 c hc
  have p4 := zpad_len 6 d hd
  have p5 := zpad_len 8 e he
  have p6 := zpad_len 10 _ l6
  have pm : (pad 6 c ++ pad 6 d ++ pad 8 e).length = 20 := by simp only [List.length_append, p3, p4, p5]
  have hl : (headB a b c d e (Lib.decDigits u)).length = 60 := by unfold headB; simp only [List.length_append, p1, p2, p3, p4, p5, p6, List.length_cons, List.length_nil]
  have d60 : (headB a b c d e (Lib.decDigits u) ++ dataB x ++ r).drop 60 = dataB x ++ r := by
    rw [List.append_assoc, List.drop_left' hl]
  have hdl : (dataB x).length = evn x.length := by
    unfold dataB evn
    rw [List.length_append]
    split
    · rename_i h; rw [h]; rfl
    · rename_i h; simp only [List.length_nil]; omega
  rw [hH, d60]
  refine ⟨by rw [List.append_assoc, List.length_append, hl]; omega, by rw [e1, List.take_left' p1], by rw [e1, List.drop_left' p1, List.take_left' p2], ?_, ?_, ?_, ?_⟩
  · rw [e1, show 48 = 16 + 32 from rfl, ← List.drop_drop, List.drop_left' p1, show 32 = 12 + 20 from rfl, ← List.drop_drop, List.drop_left' p2, List.drop_left' pm, List.take_left' p6]
  · rw [List.length_append, hdl, hu]; unfold evn; omega
  · unfold dataB; rw [hu, List.append_assoc, List.take_left' rfl]
  · rw [hu, ← hdl, List.drop_left' rfl]
theorem name_facts (p : Nat) (b : Bs) (h1 : nmb b = true) (hp : p ≤ 65536) : (nameB p b).length ≤ 16 ∧ (∀ z, (nameB p b).getLast? = some z → z ≠ 32) ∧ nameB p b ≠ [47, 47] := by
  unfold nameB
  cases hl : lng b with
  | true =>
    rw [if_pos rfl, zdec_nat]
    refine ⟨?_, ?_, fun e => ?_⟩
    · rw [List.length_cons]
      have := zdec_len p 9 (by omega)
      omega
    · intro z hz
      rw [List.getLast?_cons] at hz
      have hz' : z = (Lib.decDigits p).getLast?.getD 47 := (Option.some.inj hz).symm
      cases hg : (Lib.decDigits p).getLast? with
      | none => rw [hg] at hz'; rw [hz']; decide
      | some y => rw [hg] at hz'; rw [hz']; exact last_dec _ _ hg
    · have e2 : Lib.decDigits p = [47] := (List.cons.inj e).2
      have := decDigits_dgt p 47 (by rw [e2]; simp)
      exact absurd this.1 (by decide)
  | false =>
    have hn := name_short b [] h1
    rw [if_neg (by decide)]
    refine ⟨?_, ?_, hn.2⟩
    · unfold lng at hl
      simp only [decide_eq_false_iff_not] at hl
      rw [List.length_append, List.length_cons, List.length_nil]
      omega
    · intro z hz
      rw [List.getLast?_concat] at hz
      rw [← Option.some.inj hz]; decide
/-- one member -/
theorem rscan_member (m : Mv) (A B r : Bs) (k : Nat) (f : Bool) (l : List Mm) (hm : okM m = true) (hx : m.data.length ≤ 65536) (hA : A.length ≤ 65536) (t : Bs) (ht : lng m.name = true → t = A ++ (m.name ++ [47, 10]) ++ B) :
    rscanP (k + 1) f (memB A.length m ++ r) t l = rscanP k false r t (l ++ [tE m]) := by
  obtain ⟨h1, h2, h3⟩ := okM_parts hm
  obtain ⟨u, hu⟩ : ∃ u : Nat, m.date = u := ⟨m.date.toNat, by omega⟩
  have hd : dec m.date = Lib.decDigits u := by rw [hu]; exact zdec_nat u
  obtain ⟨n1, n2, n3⟩ := name_facts A.length m.name h1 hA
  have e : memB A.length m ++ r = headB (nameB A.length m.name) (Lib.decDigits u) [48] [48] [49, 48, 48, 54, 52, 52] (Lib.decDigits m.data.length) ++ dataB m.data ++ r := by
    unfold memB; rw [hd, zdec_nat]
  obtain ⟨q1, q2, q3, q4, q5, q6, q7⟩ := head_parts (nameB A.length m.name) (Lib.decDigits u) [48] [48] [49, 48, 48, 54, 52, 52] m.data.length m.data r n1 (by have := zdec_len u 11 (by omega); omega) (by decide) (by decide) (by decide) rfl (by omega) _ e
  have hnm : rnmP (pad 16 (nameB A.length m.name)) t = some m.name := by
    unfold nameB
    cases hl : lng m.name with
    | true => rw [if_pos rfl, ht hl]; exact rnm_long m.name A B h1 (by omega)
    | false => rw [if_neg (by decide)]; exact rnm_short m.name t h1
  have hno : ¬ (f = true ∧ pad 16 (nameB A.length m.name) = pad 16 [47, 47]) := fun h => by
    have e2 := congrArg trimR h.2
    rw [trimR_pad _ _ n2, trimR_pad _ _ (by intro z hz; have : z = 47 := by simpa using hz.symm
                                            rw [this]; decide)] at e2
    exact n3 e2
  rw [rscanP, if_neg q1, q4, dig_pad 10 _ (by omega)]
  dsimp only
  rw [if_pos q5, q2, if_neg hno, hnm]
  dsimp only
  rw [q3, q6, q7]
  unfold rdat
  rw [dig_pad 12 u (by omega)]
  dsimp only
  rw [← hu]
  rfl
theorem rscan_body (t : Bs) : ∀ (ms : List Mv) (A B : Bs) (k : Nat) (f : Bool) (l : List Mm), (∀ m ∈ ms, okM m = true) → (∀ m ∈ ms, m.data.length ≤ 65536) → A.length + (tbl ms).length ≤ 65536 → (tbl ms ≠ [] → t = A ++ tbl ms ++ B) → ms.length ≤ k → rscanP k f (bodyB A.length ms) t l = some (l ++ ms.map tE)
  | [], A, B, k, f, l, _, _, _, _, _ => by
    cases k <;> simp [rscanP, bodyB]
  | m :: r, A, B, k, f, l, h1, h2, h3, h4, h5 => by
    obtain ⟨j, rfl⟩ : ∃ j, k = j + 1 := ⟨k - 1, by simp only [List.length_cons] at h5; omega⟩
    have ht : (tbl (m :: r)).length = wtT m + (tbl r).length := by rw [tbl_len, tbl_len]; rfl
    rw [bodyB, rscan_member m A (tbl r ++ B) (bodyB (A.length + wtT m) r) j f l (h1 m (by simp)) (h2 m (by simp)) (by omega) t]
    · cases hl : lng m.name with
      | true =>
        have hw : wtT m = (m.name ++ [47, 10]).length := by unfold wtT; rw [hl]; simp
        have ih := rscan_body t r (A ++ (m.name ++ [47, 10])) B j false (l ++ [tE m]) (fun x hx => h1 x (by simp [hx])) (fun x hx => h2 x (by simp [hx])) (by rw [List.length_append]; omega) (fun hne => by
          rw [h4 (by simp [tbl, hl]), tbl, if_pos hl]; simp only [List.append_assoc]) (by simp only [List.length_cons] at h5; omega)
        rw [List.length_append, ← hw] at ih
        rw [ih, List.map_cons, List.append_assoc]
        rfl
      | false =>
        have hw : wtT m = 0 := by unfold wtT; rw [hl]; simp
        have htb : tbl (m :: r) = tbl r := by simp [tbl, hl]
        have ih := rscan_body t r A B j false (l ++ [tE m]) (fun x hx => h1 x (by simp [hx])) (fun x hx => h2 x (by simp [hx])) (by omega) (fun hne => by
          rw [h4 (by rw [htb]; exact hne), htb]) (by simp only [List.length_cons] at h5; omega)
        rw [hw, Nat.add_zero, ih, List.map_cons, List.append_assoc]
        rfl
    · intro hl
      rw [h4 (by simp [tbl, hl]), tbl, if_pos hl]; simp only [List.append_assoc]
/-- the reference takes a list's archive apart to that list -/
theorem rscan_arch (ms : List Mv) (h : wrongR ms = 0) (k : Nat) (hk : 5001 ≤ k) : rscanP k true ((archB ms).drop 8) [] [] = some (ms.map tE) := by
  obtain ⟨h1, h2, h3⟩ := zwrong_zero h
  have hlen := h2
  unfold lenA at hlen
  have hsd := sum_data ms
  have e8 : (archB ms).drop 8 = tableB ms ++ bodyB 0 ms := by
    unfold archB; rw [List.append_assoc, List.drop_left' (show magicB.length = 8 from rfl)]
  rw [e8]
  unfold tableB
  have htl := tbl_len ms
  by_cases ht : 0 < (tbl ms).length
  · rw [if_pos ht]
    have hs : 0 < sumM wtT ms := by omega
    rw [if_pos hs] at hlen
    unfold evn at hlen
    obtain ⟨j, rfl⟩ : ∃ j, k = j + 1 := ⟨k - 1, by omega⟩
    rw [zdec_nat]
    obtain ⟨q1, q2, q3, q4, q5, q6, q7⟩ := head_parts [47, 47] [] [] [] [] (tbl ms).length (tbl ms) (bodyB 0 ms) (by decide) (by decide) (by decide) (by decide) (by decide) rfl (by omega) _ rfl
    rw [rscanP, if_neg q1, q4, dig_pad 10 _ (by omega)]
    dsimp only
    rw [if_pos q5, if_pos ⟨rfl, q2⟩, q6, q7]
    have := rscan_body (tbl ms) ms [] [] j false [] h3 (fun m hm => by have := hsd m hm; omega) (by simp only [List.length_nil]; omega) (fun _ => by simp) (by omega)
    simpa using this
  · rw [if_neg ht]
    have := rscan_body [] ms [] [] k true [] h3 (fun m hm => by have := hsd m hm; omega) (by simp only [List.length_nil]; omega) (fun hne => absurd (List.length_pos_iff.2 hne) ht) (by omega)
    simpa using this
end Go.Proofs.YtcijjigafcpcpaaGreatDoor
