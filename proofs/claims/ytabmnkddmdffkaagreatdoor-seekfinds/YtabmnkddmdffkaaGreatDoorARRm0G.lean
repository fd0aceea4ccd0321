import Derived.Test.YtabmnkddmdffkaaGreatDoorARValG
import Derived.Test.YtabmnkddmdffkaaGreatDoorARSz
import Derived.Test.YtabmnkddmdffkaaGreatDoorARStrG
import Derived.Test.YtabmnkddmdffkaaGreatDoorARPp0G
import Derived.Lib.ConvBytes
namespace Go.Proofs.YtabmnkddmdffkaaGreatDoor.Arc
def digR (s : Bs) : Option Nat :=
 if s.takeWhile (· != 32) = [] ∨ 12 < (s.takeWhile (· != 32)).length then none
 else if (s.takeWhile (· != 32)).all dgtB = true then some (numF 0 (s.takeWhile (· != 32))) else none
def rdat (s : Bs) : Int := match digR s with | some n => (n : Int) | none => -1
def rnmP (nm t : Bs) : Option Bs :=
 if Lib.hasPrefix nm [47] = true then match digR (nm.drop 1) with
  | none => none
  | some j => if j ≤ t.length then (if (Lib.cut (t.drop j) [47, 10]).2.2 = true then some (Lib.cut (t.drop j) [47, 10]).1 else none) else none
 else if 47 ∈ nm then some (nm.takeWhile (· != 47)) else none
def rscanP : Nat → Bool → Bs → Bs → List Mm → Option (List Mm)
 | 0, _, r, _, l => if r.length < 60 then some l else none
 | k + 1, f, r, t, l => if r.length < 60 then some l else match digR ((r.drop 48).take 10) with
  | none => none
  | some n => if n ≤ (r.drop 60).length then
    (if f = true ∧ r.take 16 = pad 16 [47, 47] then rscanP k false ((r.drop 60).drop (evn n)) ((r.drop 60).take n) l
     else match rnmP (r.take 16) t with
      | none => none
      | some nm => rscanP k false ((r.drop 60).drop (evn n)) t (l ++ [(nm, rdat ((r.drop 16).take 12), (r.drop 60).take n)]))
   else none
theorem tw_pad (n : Nat) (x : Bs) (c : UInt8) (hc : c = 32) (h : ∀ z ∈ x, z ≠ c) : (pad n x).takeWhile (· != c) = x := by
 subst hc
 unfold pad
 rw [List.takeWhile_append_of_pos fun z hz => by simpa using h z hz]
 have : (List.replicate (n - x.length) (32 : UInt8)).takeWhile (· != 32) = [] := by
  cases n - x.length with
  | zero => rfl
  | succ k => rw [List.replicate_succ, List.takeWhile_cons_of_neg (by simp)]
 rw [this, List.append_nil]
theorem dig_pad (n u : Nat) (hu : u ≤ 999999999999) : digR (pad n (Lib.decDigits u)) = some u := by
 have hd := decDigits_dgt u
 have ht := tw_pad n (Lib.decDigits u) 32 rfl fun z hz e => by
  have := hd z hz
  rw [e] at this
  exact absurd this.1 (by decide)
 have hv := valP_dec u hu
 have hl := zdec_len u 11 (by omega)
 unfold valP at hv
 unfold digR
 rw [ht]
 split at hv
 ·cases hv
 ·rename_i h1
  rw [if_neg (fun h => by rcases h with h | h; exact h1 h; omega)]
  exact hv
theorem rnm_short (b t : Bs) (h : nmb b = true) : rnmP (pad 16 (b ++ [47])) t = some b := by
 obtain ⟨h1, h2, h3⟩ := nmb_parts h
 cases b with
 | nil => exact absurd rfl h1
 | cons a r =>
  have ha : ((47 : UInt8) == a) = false := by simpa using fun e => h3 a (by simp) e.symm
  have e : pad 16 (a :: r ++ [47]) = a :: r ++ 47 :: List.replicate (16 - (a :: r ++ [47]).length) 32 := by
   unfold pad; simp
  rw [e]
  unfold rnmP
  rw [if_neg (by simp [Lib.hasPrefix, List.isPrefixOf, ha]), if_pos (by simp)]
  rw [List.takeWhile_append_of_pos fun z hz => by simpa using h3 z hz, List.takeWhile_cons_of_neg (by simp), List.append_nil]
theorem rnm_long (b A B : Bs) (h : nmb b = true) (hA : A.length ≤ 999999999999) : rnmP (pad 16 (47 :: dec (A.length : Nat))) (A ++ (b ++ [47, 10]) ++ B) = some b := by
 obtain ⟨h1, h2, h3⟩ := nmb_parts h
 rw [zdec_nat]
 have e : pad 16 (47 :: Lib.decDigits A.length) = 47 :: pad 15 (Lib.decDigits A.length) := by
  unfold pad
  rw [List.cons_append, List.length_cons]
  congr 2
  congr 1
  omega
 rw [e]
 unfold rnmP
 rw [if_pos (by simp [Lib.hasPrefix, List.isPrefixOf])]
 simp only [List.drop_succ_cons, List.drop_zero]
 rw [dig_pad 15 _ hA]
 dsimp only
 have hc := cut2_at b B h3
 have hd : (A ++ (b ++ [47, 10]) ++ B).drop A.length = b ++ 47 :: 10 :: B := by rw [List.append_assoc, List.drop_left' rfl]; simp
 rw [if_pos (by simp), hd, if_pos hc.1, hc.2]
theorem head_parts (a b c d e : Bs) (u : Nat) (x r : Bs) (ha : a.length ≤ 16) (hb : b.length ≤ 12) (hc : c.length ≤ 6) (hd : d.length ≤ 6) (he : e.length ≤ 8) (hu : u = x.length) (hu' : u < 10000000000) (H : Bs) (hH : H = headB a b c d e (Lib.decDigits u) ++ dataB x ++ r) :
  ¬ H.length < 60 ∧ H.take 16 = pad 16 a ∧ (H.drop 16).take 12 = pad 12 b ∧ (H.drop 48).take 10 = pad 10 (Lib.decDigits u) ∧ u ≤ (H.drop 60).length ∧ (H.drop 60).take u = x ∧ (H.drop 60).drop (evn u) = r := by
 have l6 := zdec_len u 9 (by simpa using hu')
 have e1 : headB a b c d e (Lib.decDigits u) ++ dataB x ++ r = pad 16 a ++ (pad 12 b ++ (pad 6 c ++ pad 6 d ++ pad 8 e ++ (pad 10 (Lib.decDigits u) ++ ([96, 10] ++ (dataB x ++ r))))) := by
  unfold headB; simp only [List.append_assoc]
 have p1 := zpad_len 16 a ha
 have p2 := zpad_len 12 b hb
 have p3 := zpad_len 6 c hc
 have p4 := zpad_len 6 d hd
 have p5 := zpad_len 8 e he
 have p6 := zpad_len 10 _ l6
 have pm : (pad 6 c ++ pad 6 d ++ pad 8 e).length = 20 := by simp only [List.length_append, p3, p4, p5]
 have hl : (headB a b c d e (Lib.decDigits u)).length = 60 := by unfold headB; simp only [List.length_append, p1, p2, p3, p4, p5, p6, List.length_cons, List.length_nil]
 have d60 : (headB a b c d e (Lib.decDigits u) ++ dataB x ++ r).drop 60 = dataB x ++ r := by
  rw [List.append_assoc, List.drop_left' hl]
 have hdl : (dataB x).length = evn x.length := by
  unfold dataB evn
  rw [List.length_append]
  split
  ·rename_i h; rw [h]; rfl
  ·rename_i h; simp only [List.length_nil]; omega
 rw [hH, d60]
 refine ⟨by rw [List.append_assoc, List.length_append, hl]; omega, by rw [e1, List.take_left' p1], by rw [e1, List.drop_left' p1, List.take_left' p2], ?_, ?_, ?_, ?_⟩
 ·rw [e1, show 48 = 16 + 32 from rfl, ← List.drop_drop, List.drop_left' p1, show 32 = 12 + 20 from rfl, ← List.drop_drop, List.drop_left' p2, List.drop_left' pm, List.take_left' p6]
 ·rw [List.length_append, hdl, hu]; unfold evn; omega
 ·unfold dataB; rw [hu, List.append_assoc, List.take_left' rfl]
 ·rw [hu, ← hdl, List.drop_left' rfl]
theorem name_facts (p : Nat) (b : Bs) (h1 : nmb b = true) (hp : p ≤ 65536) : (nameB p b).length ≤ 16 ∧ (∀ z, (nameB p b).getLast? = some z → z ≠ 32) ∧ nameB p b ≠ [47, 47] := by
 unfold nameB
 cases hl : lng b with
 | true =>
  rw [if_pos rfl, zdec_nat]
  refine ⟨?_, ?_, fun e => ?_⟩
  ·rw [List.length_cons]
   have := zdec_len p 9 (by omega)
   omega
  ·intro z hz
   rw [List.getLast?_cons] at hz
   have hz' : z = (Lib.decDigits p).getLast?.getD 47 := (Option.some.inj hz).symm
   cases hg : (Lib.decDigits p).getLast? with
   | none => rw [hg] at hz'; rw [hz']; decide
   | some y => rw [hg] at hz'; rw [hz']; exact last_dec _ _ hg
  ·have e2 : Lib.decDigits p = [47] := (List.cons.inj e).2
   have := decDigits_dgt p 47 (by rw [e2]; simp)
   exact absurd this.1 (by decide)
 | false =>
  have hn := name_short b [] h1
  rw [if_neg (by decide)]
  refine ⟨?_, ?_, hn.2⟩
  ·unfold lng at hl
   simp only [decide_eq_false_iff_not] at hl
   rw [List.length_append, List.length_cons, List.length_nil]
   omega
  ·intro z hz
   rw [List.getLast?_concat] at hz
   rw [← Option.some.inj hz]; decide
theorem rscan_member (m : Mv) (A B r : Bs) (k : Nat) (f : Bool) (l : List Mm) (hm : okM m = true) (hx : m.data.length ≤ 65536) (hA : A.length ≤ 65536) (t : Bs) (ht : lng m.name = true → t = A ++ (m.name ++ [47, 10]) ++ B) :
  rscanP (k + 1) f (memB A.length m ++ r) t l = rscanP k false r t (l ++ [tE m]) := by
 obtain ⟨h1, h2, h3⟩ := okM_parts hm
 obtain ⟨u, hu⟩ : ∃ u : Nat, m.date = u := ⟨m.date.toNat, by omega⟩
 have hd : dec m.date = Lib.decDigits u := by rw [hu]; exact zdec_nat u
 obtain ⟨n1, n2, n3⟩ := name_facts A.length m.name h1 hA
 have e : memB A.length m ++ r = headB (nameB A.length m.name) (Lib.decDigits u) [48] [48] [49, 48, 48, 54, 52, 52] (Lib.decDigits m.data.length) ++ dataB m.data ++ r := by
  unfold memB; rw [hd, zdec_nat]
 obtain ⟨q1, q2, q3, q4, q5, q6, q7⟩ := head_parts (nameB A.length m.name) (Lib.decDigits u) [48] [48] [49, 48, 48, 54, 52, 52] m.data.length m.data r n1 (by have := zdec_len u 11 (by omega); omega) (by decide) (by decide) (by decide) rfl (by omega) _ e
 have hnm : rnmP (pad 16 (nameB A.length m.name)) t = some m.name := by
  unfold nameB
  cases hl : lng m.name with
  | true => rw [if_pos rfl, ht hl]; exact rnm_long m.name A B h1 (by omega)
  | false => rw [if_neg (by decide)]; exact rnm_short m.name t h1
 have hno : ¬ (f = true ∧ pad 16 (nameB A.length m.name) = pad 16 [47, 47]) := fun h => by
  have e2 := congrArg trimR h.2
  rw [trimR_pad _ _ n2, trimR_pad _ _ (by intro z hz; have : z = 47 := by simpa using hz.symm
                                          rw [this]; decide)] at e2
  exact n3 e2
 rw [rscanP, if_neg q1, q4, dig_pad 10 _ (by omega)]
 dsimp only
 rw [if_pos q5, q2, if_neg hno, hnm]
 dsimp only
 rw [q3, q6, q7]
 unfold rdat
 rw [dig_pad 12 u (by omega)]
 dsimp only
 rw [← hu]
 rfl
theorem rscan_body (t : Bs) : ∀ (ms : List Mv) (A B : Bs) (k : Nat) (f : Bool) (l : List Mm), (∀ m ∈ ms, okM m = true) → (∀ m ∈ ms, m.data.length ≤ 65536) → A.length + (tbl ms).length ≤ 65536 → (tbl ms ≠ [] → t = A ++ tbl ms ++ B) → ms.length ≤ k → rscanP k f (bodyB A.length ms) t l = some (l ++ ms.map tE)
 | [], A, B, k, f, l, _, _, _, _, _ => by
  cases k <;> simp [rscanP, bodyB]
 | m :: r, A, B, k, f, l, h1, h2, h3, h4, h5 => by
  obtain ⟨j, rfl⟩ : ∃ j, k = j + 1 := ⟨k - 1, by simp only [List.length_cons] at h5; omega⟩
  have ht : (tbl (m :: r)).length = wtT m + (tbl r).length := by rw [tbl_len, tbl_len]; rfl
  rw [bodyB, rscan_member m A (tbl r ++ B) (bodyB (A.length + wtT m) r) j f l (h1 m (by simp)) (h2 m (by simp)) (by omega) t]
  ·cases hl : lng m.name with
   | true =>
    have hw : wtT m = (m.name ++ [47, 10]).length := by unfold wtT; rw [hl]; simp
    have ih := rscan_body t r (A ++ (m.name ++ [47, 10])) B j false (l ++ [tE m]) (fun x hx => h1 x (by simp [hx])) (fun x hx => h2 x (by simp [hx])) (by rw [List.length_append]; omega) (fun hne => by
     rw [h4 (by simp [tbl, hl]), tbl, if_pos hl]; simp only [List.append_assoc]) (by simp only [List.length_cons] at h5; omega)
    rw [List.length_append, ← hw] at ih
    rw [ih, List.map_cons, List.append_assoc]
    rfl
   | false =>
    have hw : wtT m = 0 := by unfold wtT; rw [hl]; simp
    have htb : tbl (m :: r) = tbl r := by simp [tbl, hl]
    have ih := rscan_body t r A B j false (l ++ [tE m]) (fun x hx => h1 x (by simp [hx])) (fun x hx => h2 x (by simp [hx])) (by omega) (fun hne => by
     rw [h4 (by rw [htb]; exact hne), htb]) (by simp only [List.length_cons] at h5; omega)
    rw [hw, Nat.add_zero, ih, List.map_cons, List.append_assoc]
    rfl
  ·intro hl
   rw [h4 (by simp [tbl, hl]), tbl, if_pos hl]; simp only [List.append_assoc]
theorem rscan_arch (ms : List Mv) (h : wrongR ms = 0) (k : Nat) (hk : 5001 ≤ k) : rscanP k true ((archB ms).drop 8) [] [] = some (ms.map tE) := by
 obtain ⟨h1, h2, h3⟩ := zwrong_zero h
 have hlen := h2
 unfold lenA at hlen
 have hsd := sum_data ms
 have e8 : (archB ms).drop 8 = tableB ms ++ bodyB 0 ms := by
  unfold archB; rw [List.append_assoc, List.drop_left' (show magicB.length = 8 from rfl)]
 rw [e8]
 unfold tableB
 have htl := tbl_len ms
 by_cases ht : 0 < (tbl ms).length
 ·rw [if_pos ht]
  have hs : 0 < sumM wtT ms := by omega
  rw [if_pos hs] at hlen
  unfold evn at hlen
  obtain ⟨j, rfl⟩ : ∃ j, k = j + 1 := ⟨k - 1, by omega⟩
  rw [zdec_nat]
  obtain ⟨q1, q2, q3, q4, q5, q6, q7⟩ := head_parts [47, 47] [] [] [] [] (tbl ms).length (tbl ms) (bodyB 0 ms) (by decide) (by decide) (by decide) (by decide) (by decide) rfl (by omega) _ rfl
  rw [rscanP, if_neg q1, q4, dig_pad 10 _ (by omega)]
  dsimp only
  rw [if_pos q5, if_pos ⟨rfl, q2⟩, q6, q7]
  have := rscan_body (tbl ms) ms [] [] j false [] h3 (fun m hm => by have := hsd m hm; omega) (by simp only [List.length_nil]; omega) (fun _ => by simp) (by omega)
  simpa using this
 ·rw [if_neg ht]
  have := rscan_body [] ms [] [] k true [] h3 (fun m hm => by have := hsd m hm; omega) (by simp only [List.length_nil]; omega) (fun hne => absurd (List.length_pos_iff.2 hne) ht) (by omega)
  simpa using this
end Go.Proofs.YtabmnkddmdffkaaGreatDoor.Arc
namespace Go.Proofs.YtabmnkddmdffkaaGreatDoor.Arc
open Go.RowKit Go.Maps
def twh (c : UInt8) (l : Bs) : Bs := l.takeWhile (· != c)
def ipc (c : UInt8) (l : Bs) : Int := if (twh c l).length < l.length then ((twh c l).length : Int) else -1
theorem twh_le (c : UInt8) (l : Bs) : (twh c l).length ≤ l.length := by
 unfold twh
 exact (List.takeWhile_prefix _).length_le
theorem zdrop_at (s : ByteArray) (k : Nat) (h : k < s.size) : (tl s).drop k = s[k] :: (tl s).drop (k + 1) := by
 have h' : k < (tl s).length := by rw [tl_len]; exact h
 rw [List.drop_eq_getElem_cons h']
 rfl
set_option maxHeartbeats 400000 in
theorem rfirst_any (c : UInt8) (cn : Nat) (hcn : c.toNat = cn) (s : ByteArray) (w : World) (hs : s.size ≤ 1000000) :
  Calls Tryz.prog 39 #[.string s, .int .u8 cn] w fun e w' => e = .returned (.int .i64 (ipc c (tl s))) ∧ w' = w := by
 go_enter Tryz.func39, Tryz.ntmps39
 go_wp2
 go_loop [5] (fun i => ∃ k : Nat, k ≤ s.size ∧ i = .int .i64 k ∧ Hid (twh c (tl s) = (tl s).take k ++ twh c ((tl s).drop k))) (fun i => s.size - (intOf i).toNat)
 case atStart => exact ⟨0, Nat.zero_le _, rfl, by show _ = _; simp⟩
 case round =>
  obtain ⟨k, hk, rfl, HK⟩ := hrel
  by_cases hlt : k < s.size
  ·by_cases h1 : s[k] = c
   ·have k1 := beq_yes s[k] c cn hcn h1
    have HI : Hid (ipc c (tl s) = k) := by
     have e : (twh c (tl s)).length = k := by
      rw [HK.out, zdrop_at s k hlt, h1]
      simp [twh, tl_len]
      omega
     show _ = _
     unfold ipc
     rw [e, tl_len, if_pos hlt]
    clear h1 HK
    go_wp2
    go_ret
    exact ⟨ret_int HI.out.symm, rfl⟩
   ·have k1 := beq_no s[k] c cn hcn h1
    have HJ : Hid (twh c (tl s) = (tl s).take (k + 1) ++ twh c ((tl s).drop (k + 1))) := by
     show _ = _
     rw [HK.out, zdrop_at s k hlt]
     have e : (tl s).take (k + 1) = (tl s).take k ++ [s[k]] := by
      have h' : k < (tl s).length := by rw [tl_len]; exact hlt
      rw [List.take_add_one, List.getElem?_eq_getElem h']
      rfl
     rw [e]
     unfold twh
     rw [List.takeWhile_cons_of_pos (by simpa using h1), List.append_assoc]
     rfl
    clear h1 HK
    go_wp2
    exact ⟨⟨k + 1, by omega, by go_num, HJ⟩, by simp [intOf]; omega⟩
  ·have HI : Hid (ipc c (tl s) = -1) := by
    have e : (twh c (tl s)).length = s.size := by
     rw [HK.out, List.length_append, List.drop_of_length_le (by rw [tl_len]; omega), List.take_of_length_le (by rw [tl_len]; omega), tl_len]
     simp [twh]
    show _ = _
    unfold ipc
    rw [e, tl_len, if_neg (Nat.lt_irrefl _)]
   clear HK
   go_wp2
   go_ret
   exact ⟨ret_int HI.out.symm, rfl⟩
theorem rdat_no {s : Bs} (h : twh 32 s = [] ∨ 12 < (twh 32 s).length) : rdat s = -1 := by
 unfold rdat digR
 unfold twh at h
 rw [if_pos h]
theorem rdat_bad {s : Bs} {c : UInt8} (hc : c ∈ twh 32 s) (h : dgtB c = false) : rdat s = -1 := by
 unfold rdat digR
 unfold twh at hc
 split
 ·rename_i n hn
  split at hn
  ·cases hn
  ·split at hn
   ·rename_i ha
    have := List.all_eq_true.1 ha c hc
    rw [h] at this
    cases this
   ·cases hn
 ·rfl
theorem rdat_yes {s : Bs} (h0 : twh 32 s ≠ []) (h1 : (twh 32 s).length ≤ 12) (h : ∀ c ∈ twh 32 s, dgt c) : rdat s = (numF 0 (twh 32 s) : Nat) := by
 unfold rdat digR
 unfold twh at h0 h1 h
 rw [if_neg (fun e => by rcases e with e | e; exact h0 e; omega), if_pos (List.all_eq_true.2 fun c hc => (dgtB_iff c).2 (h c hc))]
 rfl
theorem twh_take (c : UInt8) (l : Bs) : twh c l = l.take (twh c l).length := by
 unfold twh
 exact List.prefix_iff_eq_take.1 (List.takeWhile_prefix _)
set_option maxRecDepth 100000 in
set_option maxHeartbeats 2000000 in
theorem digits_any (s : ByteArray) (w : World) (hs : s.size ≤ 1000) :
  Calls Tryz.prog 92 #[.string s] w fun e w' => e = .returned (.int .i64 (rdat (tl s))) ∧ w' = w := by
 have q := rfirst_any 32 32 rfl s w (by omega)
 obtain ⟨K, hK⟩ : ∃ K, K = (twh 32 (tl s)).length := ⟨_, rfl⟩
 have hle := twh_le 32 (tl s)
 rw [← hK, tl_len] at hle
 have hip : ipc 32 (tl s) = if K < s.size then (K : Int) else -1 := by unfold ipc; rw [← hK, tl_len]
 rw [hip] at q
 have HK := hide' hK
 clear hK hip
 by_cases hKs : K < s.size
 ·rw [if_pos hKs] at q
  have e9 : ¬ (K : Int) < 0 := by omega
  go_enter Tryz.func92, Tryz.ntmps92
  go_wp2_with fail
  by_cases h0 : K = 0 ∨ 12 < K
  ·have HR := hide' (rdat_no (s := tl s) (by rw [← List.length_eq_zero_iff, ← HK.out]; exact h0))
   by_cases hz : K = 0
   ·have e1 : ((K : Int) == 0) = true := beq_iff_eq.2 (by omega)
    have e3 : (K : Int) = 0 := by omega
    clear h0
    refine q.mono ?_
    rintro r w1 ⟨rfl, rfl⟩
    dsimp only
    clear q
    go_wp2
    go_ret
    exact ⟨ret_int HR.out.symm, rfl⟩
   ·have e1 : ((K : Int) == 0) = false := beq_eq_false_iff_ne.2 (by omega)
    have e2 : (12 : Int) < (K : Int) := by omega
    have e3 : ¬ (K : Int) = 0 := by omega
    clear h0
    refine q.mono ?_
    rintro r w1 ⟨rfl, rfl⟩
    dsimp only
    clear q
    go_wp2
    go_ret
    exact ⟨ret_int HR.out.symm, rfl⟩
  ·have e1 : ((K : Int) == 0) = false := beq_eq_false_iff_ne.2 (by omega)
   have e2 : ¬ (12 : Int) < (K : Int) := by omega
   have e3 : ¬ (K : Int) = 0 := by omega
   have h12 : 1 ≤ K ∧ K ≤ 12 := by omega
   clear h0
   refine q.mono ?_
   rintro r w1 ⟨rfl, rfl⟩
   dsimp only
   clear q
   go_wp2_with fail
   go_loop [4, 5] (fun n i => ∃ j : Nat, j ≤ K ∧ i = .int .i64 j ∧ n = .int .i64 (numF 0 ((tl s).take j) : Nat) ∧ ∀ c ∈ (tl s).take j, dgt c) (fun _ i => K - (intOf i).toNat)
   case atStart => exact ⟨0, Nat.zero_le _, rfl, by simp [numF], by simp⟩
   case round =>
    obtain ⟨j, hj, rfl, rfl, hdj⟩ := hrel
    have hlt10 := numF_lt ((tl s).take j) 0 hdj
    have hlen : ((tl s).take j).length = j := by rw [List.length_take, tl_len]; omega
    rw [hlen] at hlt10
    by_cases hjk : j < K
    ·have g1 : (j : Int) < (K : Int) := by omega
     have hjs : j < s.size := by omega
     have hmem : s[j] ∈ twh 32 (tl s) := by
      rw [twh_take, ← HK.out]
      have h' : j < (tl s).length := by rw [tl_len]; exact hjs
      refine List.mem_iff_getElem.2 ⟨j, by rw [List.length_take, tl_len]; omega, ?_⟩
      rw [List.getElem_take]
      rfl
     have hpow : 10 ^ j ≤ 10 ^ 11 := Nat.pow_le_pow_right (by decide) (by omega)
     have hnb : numF 0 ((tl s).take j) < 100000000000 := by
      have : (0 + 1) * 10 ^ j = 10 ^ j := by omega
      rw [this] at hlt10
      have : (10 : Nat) ^ 11 = 100000000000 := by decide
      omega
     have hstep : numF 0 ((tl s).take (j + 1)) = 10 * numF 0 ((tl s).take j) + (s[j].toNat - 48) := by
      have h' : j < (tl s).length := by rw [tl_len]; exact hjs
      rw [List.take_add_one, List.getElem?_eq_getElem h']
      have e : (tl s)[j] = s[j] := rfl
      rw [Option.toList_some, numF_snoc, stp_eq, e]
      omega
     clear hlt10 hpow hlen
     generalize numF 0 ((tl s).take j) = N at hnb hstep ⊢
     have hs8 := s[j].toNat_lt
     by_cases hlo : s[j].toNat < 48
     ·have HR := hide' (rdat_bad hmem (by unfold dgtB; simp; omega))
      have a1 : (s[j].toNat : Int) < 48 := by omega
      clear hmem hstep hdj hlo
      go_wp2
      go_ret
      exact ⟨ret_int HR.out.symm, rfl⟩
     ·by_cases hhi : 57 < s[j].toNat
      ·have HR := hide' (rdat_bad hmem (by unfold dgtB; simp; omega))
       have a1 : ¬ (s[j].toNat : Int) < 48 := by omega
       have a2 : (57 : Int) < (s[j].toNat : Int) := by omega
       clear hmem hstep hdj hlo hhi
       go_wp2
       go_ret
       exact ⟨ret_int HR.out.symm, rfl⟩
      ·have a1 : ¬ (s[j].toNat : Int) < 48 := by omega
       have a2 : ¬ (57 : Int) < (s[j].toNat : Int) := by omega
       have HD : Hid (∀ c ∈ (tl s).take (j + 1), dgt c) := fun c hc => by
        have h' : j < (tl s).length := by rw [tl_len]; exact hjs
        rw [List.take_add_one, List.getElem?_eq_getElem h'] at hc
        rcases List.mem_append.1 hc with hc | hc
        ·exact hdj c hc
        ·have h9 : c = (tl s)[j] := by simpa using hc
         have : c = s[j] := h9
         rw [this]
         exact ⟨by omega, by omega⟩
       have HS := hide' hstep
       clear hmem hstep hdj
       go_wp2
       refine ⟨⟨j + 1, by omega, by go_num, ?_, HD.out⟩, by simp [intOf]; omega⟩
       rw [HS.out]
       congr 1
       omega
    ·obtain rfl : j = K := by omega
     have HR := hide' (rdat_yes (s := tl s) (fun e => by have := HK.out; rw [e] at this; simp at this; omega) (by rw [← HK.out]; omega) (by rw [twh_take, ← HK.out]; exact hdj))
     rw [twh_take, ← HK.out] at HR
     have g1 : ¬ (j : Int) < (j : Int) := by omega
     clear hdj hlt10 hlen
     go_wp2
     go_ret
     exact ⟨ret_int HR.out.symm, rfl⟩
 ·rw [if_neg hKs] at q
  have hKe : K = s.size := by omega
  subst hKe
  go_enter Tryz.func92, Tryz.ntmps92
  go_wp2_with fail
  by_cases h0 : s.size = 0 ∨ 12 < s.size
  ·have HR := hide' (rdat_no (s := tl s) (by rw [← List.length_eq_zero_iff, ← HK.out]; exact h0))
   by_cases hz : s.size = 0
   ·have e1 : ((s.size : Int) == 0) = true := beq_iff_eq.2 (by omega)
    have e3 : (s.size : Int) = 0 := by omega
    clear h0
    refine q.mono ?_
    rintro r w1 ⟨rfl, rfl⟩
    dsimp only
    clear q
    go_wp2
    go_ret
    exact ⟨ret_int HR.out.symm, rfl⟩
   ·have e1 : ((s.size : Int) == 0) = false := beq_eq_false_iff_ne.2 (by omega)
    have e2 : (12 : Int) < (s.size : Int) := by omega
    have e3 : ¬ (s.size : Int) = 0 := by omega
    clear h0
    refine q.mono ?_
    rintro r w1 ⟨rfl, rfl⟩
    dsimp only
    clear q
    go_wp2
    go_ret
    exact ⟨ret_int HR.out.symm, rfl⟩
  ·have e1 : ((s.size : Int) == 0) = false := beq_eq_false_iff_ne.2 (by omega)
   have e2 : ¬ (12 : Int) < (s.size : Int) := by omega
   have e3 : ¬ (s.size : Int) = 0 := by omega
   have h12 : 1 ≤ s.size ∧ s.size ≤ 12 := by omega
   clear h0
   refine q.mono ?_
   rintro r w1 ⟨rfl, rfl⟩
   dsimp only
   clear q
   go_wp2_with fail
   go_loop [4, 5] (fun n i => ∃ j : Nat, j ≤ s.size ∧ i = .int .i64 j ∧ n = .int .i64 (numF 0 ((tl s).take j) : Nat) ∧ ∀ c ∈ (tl s).take j, dgt c) (fun _ i => s.size - (intOf i).toNat)
   case atStart => exact ⟨0, Nat.zero_le _, rfl, by simp [numF], by simp⟩
   case round =>
    obtain ⟨j, hj, rfl, rfl, hdj⟩ := hrel
    have hlt10 := numF_lt ((tl s).take j) 0 hdj
    have hlen : ((tl s).take j).length = j := by rw [List.length_take, tl_len]; omega
    rw [hlen] at hlt10
    by_cases hjk : j < s.size
    ·have g1 : (j : Int) < (s.size : Int) := by omega
     have hjs : j < s.size := by omega
     have hmem : s[j] ∈ twh 32 (tl s) := by
      rw [twh_take, ← HK.out]
      have h' : j < (tl s).length := by rw [tl_len]; exact hjs
      refine List.mem_iff_getElem.2 ⟨j, by rw [List.length_take, tl_len]; omega, ?_⟩
      rw [List.getElem_take]
      rfl
     have hpow : 10 ^ j ≤ 10 ^ 11 := Nat.pow_le_pow_right (by decide) (by omega)
     have hnb : numF 0 ((tl s).take j) < 100000000000 := by
      have : (0 + 1) * 10 ^ j = 10 ^ j := by omega
      rw [this] at hlt10
      have : (10 : Nat) ^ 11 = 100000000000 := by decide
      omega
     have hstep : numF 0 ((tl s).take (j + 1)) = 10 * numF 0 ((tl s).take j) + (s[j].toNat - 48) := by
      have h' : j < (tl s).length := by rw [tl_len]; exact hjs
      rw [List.take_add_one, List.getElem?_eq_getElem h']
      have e : (tl s)[j] = s[j] := rfl
      rw [Option.toList_some, numF_snoc, stp_eq, e]
      omega
     clear hlt10 hpow hlen
     generalize numF 0 ((tl s).take j) = N at hnb hstep ⊢
     have hs8 := s[j].toNat_lt
     by_cases hlo : s[j].toNat < 48
     ·have HR := hide' (rdat_bad hmem (by unfold dgtB; simp; omega))
      have a1 : (s[j].toNat : Int) < 48 := by omega
      clear hmem hstep hdj hlo
      go_wp2
      go_ret
      exact ⟨ret_int HR.out.symm, rfl⟩
     ·by_cases hhi : 57 < s[j].toNat
      ·have HR := hide' (rdat_bad hmem (by unfold dgtB; simp; omega))
       have a1 : ¬ (s[j].toNat : Int) < 48 := by omega
       have a2 : (57 : Int) < (s[j].toNat : Int) := by omega
       clear hmem hstep hdj hlo hhi
       go_wp2
       go_ret
       exact ⟨ret_int HR.out.symm, rfl⟩
      ·have a1 : ¬ (s[j].toNat : Int) < 48 := by omega
       have a2 : ¬ (57 : Int) < (s[j].toNat : Int) := by omega
       have HD : Hid (∀ c ∈ (tl s).take (j + 1), dgt c) := fun c hc => by
        have h' : j < (tl s).length := by rw [tl_len]; exact hjs
        rw [List.take_add_one, List.getElem?_eq_getElem h'] at hc
        rcases List.mem_append.1 hc with hc | hc
        ·exact hdj c hc
        ·have h9 : c = (tl s)[j] := by simpa using hc
         have : c = s[j] := h9
         rw [this]
         exact ⟨by omega, by omega⟩
       have HS := hide' hstep
       clear hmem hstep hdj
       go_wp2
       refine ⟨⟨j + 1, by omega, by go_num, ?_, HD.out⟩, by simp [intOf]; omega⟩
       rw [HS.out]
       congr 1
       omega
    ·have hje : j = s.size := by omega
     subst hje
     have HR := hide' (rdat_yes (s := tl s) (fun e => by have h9 : s.size = List.length (twh 32 (tl s)) := HK.out; rw [e, List.length_nil] at h9; omega) (by rw [← HK.out]; omega) (by rw [twh_take, ← HK.out]; exact hdj))
     rw [twh_take, ← HK.out] at HR
     have g1 : ¬ (s.size : Int) < (s.size : Int) := by omega
     clear hdj hlt10 hlen
     go_wp2
     go_ret
     exact ⟨ret_int HR.out.symm, rfl⟩
end Go.Proofs.YtabmnkddmdffkaaGreatDoor.Arc
namespace Go.Proofs.YtabmnkddmdffkaaGreatDoor.Arc
open Go.RowKit Go.Maps
def At (s sub : Bs) (i : Nat) : Prop := i + sub.length ≤ s.length ∧ (s.drop i).take sub.length = sub
def FindR (s sub : Bs) (z : Int) : Prop := (z = -1 ∧ ∀ i, ¬ At s sub i) ∨ ∃ i : Nat, z = i ∧ At s sub i ∧ ∀ j, j < i → ¬ At s sub j
set_option maxRecDepth 100000 in
set_option maxHeartbeats 1000000 in
theorem find_any (s sub : Bs) (hs : s.length ≤ 1000000) (hb : sub.length ≤ 1000000) (w : World) : Calls Tryz.prog 94 #[.string (mk s), .string (mk sub)] w fun r w' => (∃ z, r = .returned (.int .i64 z) ∧ FindR s sub z) ∧ w' = w := by
 have e1 := mk_size s
 have e2 := mk_size sub
 go_enter Tryz.func94, Tryz.ntmps94
 go_wp2
 go_loopw [5] (fun i wr => ∃ k : Nat, i = .int .i64 k ∧ k ≤ s.length + 1 ∧ (∀ j, j < k → ¬ At s sub j) ∧ wr = w) (fun i _ => s.length + 1 - (intOf i).toNat)
 case atStart => exact ⟨0, rfl, by omega, fun j hj => absurd hj (Nat.not_lt_zero _), rfl⟩
 case round =>
  obtain ⟨k, rfl, hk, hno, rfl⟩ := hrel
  by_cases hle : k + sub.length ≤ s.length
  ·have k1 : (k : Int) ≤ (s.length : Int) - (sub.length : Int) := by omega
   have k2 : ((k : Int) + (sub.length : Int)) ≤ s.length := by omega
   have hx : (mk s).extract k (k + sub.length) = mk ((s.drop k).take sub.length) := by rw [ext_mk, tl_mk, Nat.add_sub_cancel_left]
   by_cases hat : (s.drop k).take sub.length = sub
   ·have hA : At s sub k := ⟨hle, hat⟩
    have HA := hide' (And.intro hA hno)
    rw [hat] at hx
    clear hA hno hat
    go_wp2
    go_ret
    exact ⟨⟨k, rfl, .inr ⟨k, rfl, HA.out⟩⟩, rfl⟩
   ·have hA : ¬ At s sub k := fun h => hat h.2
    have hno2 : ∀ j, j < k + 1 → ¬ At s sub j := fun j hj => by
     by_cases e : j = k
     ·subst e; exact hA
     ·exact hno j (by omega)
    have HA := hide' hno2
    have hq : ((s.drop k).take sub.length == sub) = false := beq_eq_false_iff_ne.2 hat
    clear hA hno hno2
    go_wp2
    exact ⟨⟨k + 1, by simp, by omega, HA.out, trivial⟩, by simp [intOf]; omega⟩
  ·have k1 : ¬ (k : Int) ≤ (s.length : Int) - (sub.length : Int) := by omega
   have hno2 : ∀ j, ¬ At s sub j := fun j hj => by
    by_cases e : j < k
    ·exact hno j e hj
    ·have := hj.1; omega
   have HA := hide' hno2
   clear hno hno2
   go_wp2
   go_ret
   exact ⟨⟨-1, rfl, .inl ⟨rfl, HA.out⟩⟩, rfl⟩
end Go.Proofs.YtabmnkddmdffkaaGreatDoor.Arc
namespace Go.Proofs.YtabmnkddmdffkaaGreatDoor.Arc
open Go.RowKit Go.Maps
theorem at_occ (s sub : Bs) (i : Nat) (hi : i ≤ s.length) : Lib.occAt s sub i = true ↔ At s sub i := by
 unfold Lib.occAt At
 rw [List.isPrefixOf_iff_prefix, List.prefix_iff_eq_take]
 constructor
 ·intro h
  refine ⟨?_, h.symm⟩
  have := congrArg List.length h
  rw [List.length_take, List.length_drop] at this
  omega
 ·intro h
  exact h.2.symm
theorem findR_index {s sub : Bs} {z : Int} (h : FindR s sub z) : z = Lib.index s sub := by
 rcases h with ⟨rfl, hno⟩ | ⟨i, rfl, hat, hno⟩
 ·refine (Lib.index_none fun j hj => ?_).symm
  cases e : Lib.occAt s sub j with
  | false => rfl
  | true => exact absurd ((at_occ s sub j hj).1 e) (hno j)
 ·have hi : i ≤ s.length := by have := hat.1; omega
  refine (Lib.index_first hi ((at_occ s sub i hi).2 hat) fun j hj => ?_).symm
  cases e : Lib.occAt s sub j with
  | false => rfl
  | true => exact absurd ((at_occ s sub j (by omega)).1 e) (hno j hj)
theorem rfind_any (s sub : Bs) (hs : s.length ≤ 1000000) (hb : sub.length ≤ 1000000) (w : World) : Calls Tryz.prog 94 #[.string (mk s), .string (mk sub)] w fun r w' => r = .returned (.int .i64 (Lib.index s sub)) ∧ w' = w :=
 (find_any s sub hs hb w).mono fun r w' ⟨⟨z, hz, hf⟩, hw⟩ => ⟨by rw [hz, findR_index hf], hw⟩
def DatF (w : World) (v : Value) (bs : Bs) : Prop := ∃ g cap cur f, v = .slice (some ⟨g, 0, none⟩) bs.length cap ∧ w.heap[g]? = some (.cells cur 5 f) ∧ cur.toList.take bs.length = Lib.byteCells bs
theorem DatF.rds {w : World} {v : Value} {bs : Bs} (h : DatF w v bs) : Rds w v bs := by
 obtain ⟨g, cap, cur, f, rfl, hg, h4⟩ := h
 refine .inr ⟨_, _, rfl, fun _ => lt_of_block hg, fun j u hj => ?_⟩
 have hjl : j < bs.length := by
  have := (List.getElem?_eq_some_iff.1 hj).1
  rwa [Lib.byteCells_length] at this
 rw [← h4, List.getElem?_take_of_lt hjl] at hj
 rw [add_zero, Lib.cell_of_heap hg]
 simpa using hj
theorem DatF.kept {w w' : World} {v : Value} {bs : Bs} (h : DatF w v bs) (hk : ∀ g, v.ownBlock = some g → w'.heap[g]? = w.heap[g]?) : DatF w' v bs := by
 obtain ⟨g, cap, cur, f, rfl, hg, h4⟩ := h
 exact ⟨g, cap, cur, f, rfl, (hk g rfl).trans hg, h4⟩
theorem DatF.lt {w : World} {v : Value} {bs : Bs} (h : DatF w v bs) : ∀ g, v.ownBlock = some g → g < w.heap.size := fun g hg => by
 obtain ⟨g', cap, cur, f, rfl, h1, h4⟩ := h
 have : g' = g := Option.some.inj hg
 rw [← this]
 exact lt_of_block h1
theorem DatF.grown {w w' : World} {v va : Value} {bs : Bs} {base n : Nat} {xs : List Value} (hd : DatF w v bs) (ho : w.ownsRow base 86 3 va n xs) (hg : w.grownBy w' va.ownBlock) : DatF w' v bs := by
 refine hd.kept fun g hgb => hg.block g (hd.lt g hgb) fun e => ?_
 rcases ho.2 with ⟨rfl, _⟩ | ⟨g', cap, cur, rfl, _, hr, _⟩
 ·cases e
 ·obtain ⟨g2, cap2, cur2, f2, rfl, hc, _⟩ := hd
  have e1 : g = g' := Option.some.inj e
  have e2 : g2 = g := Option.some.inj hgb
  rw [e2, e1, hr] at hc
  simp at hc
structure BlF (w : World) (B : Nat) (l : Value) (ms : List Mv) : Prop where
 own : w.ownsRow B 86 3 l ms.length (flat ms)
 dat : ∀ m ∈ ms, DatF w m.dv m.data
theorem BlF.nil (w : World) (B : Nat) : BlF w B (.slice none 0 0) [] := ⟨World.ownsRow_nil _ _ _ _, fun n hn => (by cases hn)⟩
theorem BlF.below {w w' : World} {B : Nat} {l : Value} {ms : List Mv} (h : BlF w B l ms) (hb : Below w.heap.size w w') : BlF w' B l ms :=
 ⟨own_kept h.own hb, fun m hm => (h.dat m hm).kept fun g hg => hb.block g ((h.dat m hm).lt g hg)⟩
theorem BlF.form {w : World} {B : Nat} {l : Value} {ms : List Mv} (h : BlF w B l ms) : ∃ a c, l = .slice a ms.length c := by
 rcases h.own.2 with ⟨e, e2⟩ | ⟨g1, c1, cur1, e, _⟩
 ·exact ⟨none, 0, by rw [e, e2]⟩
 ·exact ⟨_, _, e⟩
theorem BlF.mems {w : World} {B : Nat} {l : Value} {ms : List Mv} (h : BlF w B l ms) : Mems w l ms := by
 rcases h.own.2 with ⟨rfl, e2⟩ | ⟨g, cap, cur, rfl, hbg, hg, r1, r2, r3, r4⟩
 ·exact .inl ⟨⟨_, _, rfl⟩, List.length_eq_zero_iff.1 e2⟩
 ·refine .inr ⟨g, 0, cap, rfl, r1, ⟨lt_of_block hg, fun i n hi => ?_, fun i n hi => ?_, fun i n hi => ?_⟩, fun n hn => (h.dat n hn).rds⟩
  ·rw [Nat.zero_add]; exact cell_row hg r4 (r := 0) hi (by omega) rfl
  ·rw [Nat.zero_add]; exact cell_row hg r4 (r := 1) hi (by omega) rfl
  ·rw [Nat.zero_add]; exact cell_row hg r4 (r := 2) hi (by omega) rfl
theorem BlF.step {w w' : World} {B : Nat} {l l' : Value} {ms : List Mv} {x : Mv} (h : BlF w B l ms) (hd : DatF w x.dv x.data) (hg : w.grownBy w' l.ownBlock) (ho : w'.ownsRow B 86 3 l' (ms.length + 1) (flat ms ++ cellsM x)) : BlF w' B l' (ms ++ [x]) := by
 refine ⟨by rw [flat_snoc, List.length_append]; exact ho, fun m hm => ?_⟩
 rcases List.mem_append.1 hm with hm | hm
 ·exact (h.dat m hm).grown h.own hg
 ·rw [List.mem_singleton.1 hm]; exact hd.grown h.own hg
theorem BlF.grown {w w' : World} {B C : Nat} {w0 : World} {l : Value} {ms : List Mv} (h : BlF w B l ms) (hg : w.grownBy w' l.ownBlock) (hb : Below C w0 w) (hC : C ≤ B) (hC' : C ≤ w.heap.size) : Below C w0 w' :=
 hb.trans ⟨hg.os, hg.tape, hg.output, hg.size, fun b hb => hg.block b (by omega) (own_lt h.own (by omega))⟩
theorem conv_datF (w : World) (x : Bs) : (convert 9 57 (.string (mk x))).run Tryz.prog w = .ok (.slice (some ⟨w.heap.size, 0, none⟩) x.length (grownCap w x.length 0 5)) (Lib.bytesWorld w 5 (mk x)) ∧ DatF (Lib.bytesWorld w 5 (mk x)) (.slice (some ⟨w.heap.size, 0, none⟩) x.length (grownCap w x.length 0 5)) x ∧ Below w.heap.size w (Lib.bytesWorld w 5 (mk x)) := by
 have h1 := Lib.run_convert_string_bytes (P := Tryz.prog) w 9 57 5 (mk x) Tryz.underlying9 Tryz.underlying57 Tryz.underlying5
 rw [mk_size] at h1
 refine ⟨h1, ⟨_, _, _, _, rfl, Lib.bytesWorld_at_new w 5 (mk x), ?_⟩, ?_⟩
 ·unfold Lib.bytesCells
  rw [Array.toList_append, List.take_left' (by simp)]
  simp [Lib.byteCells]
 ·have h2 : Below w.heap.size w w.drew := below_drewn (B := w.heap.size) (w := w) 1
  refine ⟨?_, ?_, ?_, by rw [Lib.bytesWorld_size]; omega, fun j hj => Lib.bytesWorld_at_old w 5 (mk x) j hj⟩
  ·exact h2.os
  ·exact h2.tape
  ·exact h2.output
end Go.Proofs.YtabmnkddmdffkaaGreatDoor.Arc
