import Derived.Test.YtabmnkddmdffkaaGreatDoorARArG
import Derived.Lib.TrimByte
import Derived.Lib.ItoaMem
import Derived.Lib.IndexMore
import Derived.Test.YtabmnkddmdffkaaGreatDoorARShelf
import Derived.Lib.ConvBytes
import Derived.Test.YtabmnkddmdffkaaGreatDoorAShelf
import Derived.Deep.QuietTactic
import Derived.BigQuiet
namespace Go.Proofs.YtabmnkddmdffkaaGreatDoor.Arc
open Go.RowKit Go.Maps
abbrev Mm := Bs × Int × Bs
/-! numbers -/
def dgt (c : UInt8) : Prop := 48 ≤ c.toNat ∧ c.toNat ≤ 57
def stp (a : Nat) (c : UInt8) : Nat := a * 10 + (c.toNat - 48)
theorem stp_eq (a : Nat) (c : UInt8) : stp a c = a * 10 + (c.toNat - 48) := by unfold stp; exact Eq.refl _
def numF (acc : Nat) (l : Bs) : Nat := List.foldl stp acc l
theorem numF_nil (acc : Nat) : numF acc [] = acc := by unfold numF; rw [List.foldl_nil]
theorem numF_cons (acc : Nat) (c : UInt8) (r : Bs) : numF acc (c :: r) = numF (stp acc c) r := by unfold numF; rw [List.foldl_cons]
theorem numF_snoc (l : Bs) (c : UInt8) : ∀ (acc : Nat), numF acc (l ++ [c]) = stp (numF acc l) c := by
 induction l with
 | nil => intro acc; rw [List.nil_append, numF_cons, numF_nil, numF_nil]
 | cons a r ih => intro acc; rw [List.cons_append, numF_cons, numF_cons, ih]
def dgtB (c : UInt8) : Bool := decide (48 ≤ c.toNat) && decide (c.toNat ≤ 57)
theorem dgtB_iff (c : UInt8) : dgtB c = true ↔ dgt c := by unfold dgtB dgt; simp
def valP (s : Bs) : Option Nat := if s = [] then none else if s.all dgtB = true then some (numF 0 s) else none
def trimR (s : Bs) : Bs := Lib.trimRightB s 32
def cutP (b : Bs) : Option (Bs × Bs × Bs × Bs) :=
 if b.length < 60 then none else match valP (trimR ((b.drop 48).take 10)) with
  | none => none
  | some n => if evn n ≤ (b.drop 60).length then some (trimR (b.take 16), trimR ((b.drop 16).take 12), (b.drop 60).take n, (b.drop 60).drop (evn n)) else none
def nameP (c t : Bs) : Option Bs :=
 if Lib.hasPrefix c [47] = true then match valP (c.drop 1) with
  | none => none
  | some k => if k ≤ t.length then (if (Lib.cut (t.drop k) [47, 10]).2.2 = true then some (Lib.cut (t.drop k) [47, 10]).1 else none) else none
 else if Lib.hasSuffix c [47] = true then some (c.take (c.length - 1)) else none
def scanP : Nat → Bs → Bs → List Mm → Option (List Mm)
 | 0, _, r, l => if r = [] then some l else none
 | k + 1, t, r, l => if r = [] then some l else match cutP r with
  | none => none
  | some (c, d, x, r') => if c = [47, 47] then scanP k x r' l else match nameP c t, valP d with
   | some n, some v => scanP k t r' (l ++ [(n, (v : Int), x)])
   | _, _ => none
theorem dig_of (n : Nat) (h : n < 10) : (UInt8.ofNat (48 + n)).toNat = 48 + n := by
 rw [UInt8.toNat_ofNat']; omega
theorem decDigits_dgt (u : Nat) : ∀ c ∈ Lib.decDigits u, dgt c := by
 induction u using Nat.strongRecOn with
 | _ u ih =>
  intro c hc
  rw [Lib.decDigits] at hc
  split at hc
  ·rename_i h
   rw [List.mem_singleton] at hc
   subst hc
   unfold dgt
   rw [dig_of u h]; omega
  ·rename_i h
   rcases List.mem_append.1 hc with hc | hc
   ·exact ih (u / 10) (by omega) c hc
   ·rw [List.mem_singleton] at hc
    subst hc
    unfold dgt
    rw [dig_of _ (by omega)]; omega
theorem decDigits_num (u : Nat) : numF 0 (Lib.decDigits u) = u := by
 induction u using Nat.strongRecOn with
 | _ u ih =>
  rw [Lib.decDigits]
  split
  ·rename_i h
   rw [numF_cons, numF_nil, stp_eq, dig_of u h]; omega
  ·rename_i h
   rw [numF_snoc, ih (u / 10) (by omega), stp_eq, dig_of _ (by omega)]; omega
theorem nDigits_le (k : Nat) : ∀ u, u < 10 ^ (k + 1) → Lib.nDigits u ≤ k + 1 := by
 induction k with
 | zero =>
  intro u hu
  have : u < 10 := by simpa using hu
  rw [Lib.nDigits_small this]
  omega
 | succ k ih =>
  intro u hu
  by_cases h : u < 10
  ·rw [Lib.nDigits_small h]; omega
  ·rw [Lib.nDigits_big h]
   have := ih (u / 10) (by rw [Nat.div_lt_iff_lt_mul (by decide)]; rw [← Nat.pow_succ]; exact hu)
   omega
theorem zdec_nat (u : Nat) : dec (u : Int) = Lib.decDigits u := Lib.itoa_nonneg u
theorem dec_ne (u : Nat) : Lib.decDigits u ≠ [] := fun e => by
 have h1 := Lib.decDigits_length u
 have h2 := Lib.nDigits_pos u
 rw [e, List.length_nil] at h1
 omega
theorem zdec_len (u k : Nat) (h : u < 10 ^ (k + 1)) : (Lib.decDigits u).length ≤ k + 1 := by rw [Lib.decDigits_length]; exact nDigits_le k u h
theorem valP_dec (u : Nat) (_h : u ≤ 999999999999) : valP (Lib.decDigits u) = some u := by
 unfold valP
 rw [if_neg (dec_ne u), if_pos (List.all_eq_true.2 fun c hc => (dgtB_iff c).2 (decDigits_dgt u c hc)), decDigits_num]
theorem numF_lt (l : Bs) : ∀ (acc : Nat), (∀ c ∈ l, dgt c) → numF acc l < (acc + 1) * 10 ^ l.length := by
 induction l with
 | nil => intro acc _; rw [numF_nil, List.length_nil, Nat.pow_zero]; omega
 | cons c r ih =>
  intro acc hd
  have h1 := hd c (by simp)
  unfold dgt at h1
  have h2 := ih (stp acc c) fun x hx => hd x (by simp [hx])
  rw [numF_cons, List.length_cons, Nat.pow_succ]
  refine Nat.lt_of_lt_of_le h2 ?_
  rw [Nat.mul_comm (10 ^ r.length) 10, ← Nat.mul_assoc]
  refine Nat.mul_le_mul_right _ ?_
  rw [stp_eq]
  omega
/-! columns -/
theorem trimR_pad (n : Nat) (x : Bs) (h : ∀ c, x.getLast? = some c → c ≠ 32) : trimR (pad n x) = x := by
 unfold trimR pad Lib.trimRightB
 rw [List.reverse_append, List.reverse_replicate, List.dropWhile_append]
 have h1 : (List.replicate (n - x.length) (32 : UInt8)).dropWhile (· == 32) = [] := by
  generalize n - x.length = k
  induction k with
  | zero => rfl
  | succ k ih => rw [List.replicate_succ, List.dropWhile_cons_of_pos (by rfl)]; exact ih
 rw [h1]
 simp only [List.isEmpty_nil, if_true]
 cases hx : x.reverse with
 | nil => have : x = [] := by simpa using hx
          simp [this]
 | cons a r =>
  have hl : x.getLast? = some a := by rw [List.getLast?_eq_head?_reverse, hx]; rfl
  have hne := h a hl
  rw [List.dropWhile_cons_of_neg (by simpa using hne), ← hx, List.reverse_reverse]
theorem zpad_len (n : Nat) (x : Bs) (h : x.length ≤ n) : (pad n x).length = n := by unfold pad; rw [List.length_append, List.length_replicate]; omega
theorem last_dec (u : Nat) : ∀ c, (Lib.decDigits u).getLast? = some c → c ≠ 32 := fun c hc e => by
 have := decDigits_dgt u c (List.mem_of_getLast? hc)
 rw [e] at this
 exact absurd this.1 (by decide)
theorem cut_head (a b c d e : Bs) (u : Nat) (x r : Bs) (ha : a.length ≤ 16) (hb : b.length ≤ 12) (hc : c.length ≤ 6) (hd : d.length ≤ 6) (he : e.length ≤ 8) (hu : u = x.length) (hu' : u < 10000000000)
  (la : ∀ z, a.getLast? = some z → z ≠ 32) (lb : ∀ z, b.getLast? = some z → z ≠ 32) :
  cutP (headB a b c d e (Lib.decDigits u) ++ dataB x ++ r) = some (a, b, x, r) := by
 have l6 := zdec_len u 9 (by simpa using hu')
 have e1 : headB a b c d e (Lib.decDigits u) ++ dataB x ++ r = pad 16 a ++ (pad 12 b ++ (pad 6 c ++ pad 6 d ++ pad 8 e ++ (pad 10 (Lib.decDigits u) ++ ([96, 10] ++ (dataB x ++ r))))) := by
  unfold headB; simp only [List.append_assoc]
 have p1 := zpad_len 16 a ha
 have p2 := zpad_len 12 b hb
 have p3 := zpad_len 6 c hc
 have p4 := zpad_len 6 d hd
 have p5 := zpad_len 8 e he
 have p6 := zpad_len 10 _ l6
 have pm : (pad 6 c ++ pad 6 d ++ pad 8 e).length = 20 := by simp only [List.length_append, p3, p4, p5]
 have hl : (headB a b c d e (Lib.decDigits u)).length = 60 := by unfold headB; simp only [List.length_append, p1, p2, p3, p4, p5, p6, List.length_cons, List.length_nil]
 have d60 : (headB a b c d e (Lib.decDigits u) ++ dataB x ++ r).drop 60 = dataB x ++ r := by
  rw [List.append_assoc, List.drop_left' hl]
 have t16 : (headB a b c d e (Lib.decDigits u) ++ dataB x ++ r).take 16 = pad 16 a := by rw [e1, List.take_left' p1]
 have t28 : ((headB a b c d e (Lib.decDigits u) ++ dataB x ++ r).drop 16).take 12 = pad 12 b := by rw [e1, List.drop_left' p1, List.take_left' p2]
 have t58 : ((headB a b c d e (Lib.decDigits u) ++ dataB x ++ r).drop 48).take 10 = pad 10 (Lib.decDigits u) := by
  rw [e1, show 48 = 16 + 32 from rfl, ← List.drop_drop, List.drop_left' p1, show 32 = 12 + 20 from rfl, ← List.drop_drop, List.drop_left' p2, List.drop_left' pm, List.take_left' p6]
 have hdl : (dataB x).length = evn x.length := by
  unfold dataB evn
  rw [List.length_append]
  split
  ·rename_i h; rw [h]; rfl
  ·rename_i h; simp only [List.length_nil]; omega
 unfold cutP
 rw [if_neg (by rw [List.append_assoc, List.length_append, hl]; omega), t58, trimR_pad _ _ (last_dec u)]
 have hv : valP (Lib.decDigits u) = some u := valP_dec u (by omega)
 rw [hv]
 dsimp only
 rw [d60, if_pos (by rw [List.length_append, hdl, hu]; omega), t16, t28, trimR_pad _ _ la, trimR_pad _ _ lb]
 have hx1 : (dataB x ++ r).take u = x := by
  unfold dataB; rw [hu, List.append_assoc, List.take_left' rfl]
 have hx2 : (dataB x ++ r).drop (evn u) = r := by rw [hu, ← hdl, List.drop_left' rfl]
 rw [hx1, hx2]
/-! names -/
theorem nmb_parts {b : Bs} (h : nmb b = true) : b ≠ [] ∧ b.length ≤ 255 ∧ ∀ c ∈ b, c ≠ 47 := by
 unfold nmb at h
 simp only [Bool.and_eq_true, Bool.not_eq_true', decide_eq_true_eq] at h
 obtain ⟨⟨h1, h2⟩, h3⟩ := h
 refine ⟨fun e => (by rw [e] at h1; cases h1), h2, fun c hc e => ?_⟩
 have := List.any_eq_false.1 h3 c hc
 simp [e] at this
theorem index2_at : ∀ (x r : Bs), (∀ c ∈ x, c ≠ 47) → Lib.index (x ++ 47 :: 10 :: r) [47, 10] = x.length
 | [], r, _ => by simp [Lib.index]
 | a :: x, r, h => by
  have ih := index2_at x r fun c hc => h c (by simp [hc])
  have ha : ((47 : UInt8) == a) = false := by simpa using fun e => h a (by simp) e.symm
  rw [List.cons_append, Lib.index, if_neg (by simp [List.isPrefixOf, ha]), ih, if_neg (by simp)]
  simp
theorem cut2_at (x r : Bs) (h : ∀ c ∈ x, c ≠ 47) : (Lib.cut (x ++ 47 :: 10 :: r) [47, 10]).2.2 = true ∧ (Lib.cut (x ++ 47 :: 10 :: r) [47, 10]).1 = x := by
 have := index2_at x r h
 unfold Lib.cut
 rw [this, if_pos (by omega)]
 exact ⟨rfl, List.take_left' (by simp)⟩
theorem name_short (b t : Bs) (h : nmb b = true) : nameP (b ++ [47]) t = some b ∧ b ++ [47] ≠ [47, 47] := by
 obtain ⟨h1, h2, h3⟩ := nmb_parts h
 cases b with
 | nil => exact absurd rfl h1
 | cons a r =>
  have ha : ((47 : UInt8) == a) = false := by simpa using fun e => h3 a (by simp) e.symm
  refine ⟨?_, fun e => ?_⟩
  ·unfold nameP
   rw [if_neg (by simp [Lib.hasPrefix, List.isPrefixOf, ha]), if_pos (by simp [Lib.hasSuffix, List.isSuffixOf, List.isPrefixOf])]
   simp
  ·have : a = 47 := by have := List.cons.inj e; exact this.1
   exact h3 a (by simp) this
theorem name_long (b A B : Bs) (h : nmb b = true) (hA : A.length ≤ 999999999999) : nameP (47 :: dec (A.length : Nat)) (A ++ (b ++ [47, 10]) ++ B) = some b ∧ 47 :: dec (A.length : Nat) ≠ [47, 47] := by
 obtain ⟨h1, h2, h3⟩ := nmb_parts h
 rw [zdec_nat]
 refine ⟨?_, fun e => ?_⟩
 ·unfold nameP
  rw [if_pos (by simp [Lib.hasPrefix, List.isPrefixOf])]
  simp only [List.drop_succ_cons, List.drop_zero]
  rw [valP_dec _ hA]
  dsimp only
  have hc := cut2_at b B h3
  have hd : (A ++ (b ++ [47, 10]) ++ B).drop A.length = b ++ 47 :: 10 :: B := by rw [List.append_assoc, List.drop_left' rfl]; simp
  rw [if_pos (by simp), hd, if_pos hc.1, hc.2]
 ·have e2 : Lib.decDigits A.length = [47] := (List.cons.inj e).2
  have := decDigits_dgt A.length 47 (by rw [e2]; simp)
  exact absurd this.1 (by decide)
theorem okM_parts {m : Mv} (h : okM m = true) : nmb m.name = true ∧ 0 ≤ m.date ∧ m.date ≤ 999999999999 := by
 unfold okM at h
 simp only [Bool.and_eq_true, decide_eq_true_eq] at h
 exact ⟨h.1.1, h.1.2, h.2⟩
def tE (m : Mv) : Mm := (m.name, m.date, m.data)
theorem scan_member (m : Mv) (A B r : Bs) (k : Nat) (l : List Mm) (hm : okM m = true) (hx : m.data.length ≤ 65536) (hA : A.length ≤ 65536) (t : Bs) (ht : lng m.name = true → t = A ++ (m.name ++ [47, 10]) ++ B) :
  scanP (k + 1) t (memB A.length m ++ r) l = scanP k t r (l ++ [tE m]) := by
 obtain ⟨h1, h2, h3⟩ := okM_parts hm
 obtain ⟨n1, n2, n3⟩ := nmb_parts h1
 obtain ⟨u, hu⟩ : ∃ u : Nat, m.date = u := ⟨m.date.toNat, by omega⟩
 have hd : dec m.date = Lib.decDigits u := by rw [hu]; exact zdec_nat u
 have hN : (nameB A.length m.name).length ≤ 16 ∧ (∀ z, (nameB A.length m.name).getLast? = some z → z ≠ 32) ∧ nameP (nameB A.length m.name) t = some m.name ∧ nameB A.length m.name ≠ [47, 47] := by
  unfold nameB
  cases hl : lng m.name with
  | true =>
   have hn := name_long m.name A B h1 (by omega)
   rw [if_pos rfl, ht hl]
   refine ⟨?_, ?_, hn.1, hn.2⟩
   ·rw [zdec_nat, List.length_cons]
    have := zdec_len A.length 9 (by omega)
    omega
   ·intro z hz
    rw [zdec_nat, List.getLast?_cons] at hz
    have hz' : z = (Lib.decDigits A.length).getLast?.getD 47 := (Option.some.inj hz).symm
    cases hg : (Lib.decDigits A.length).getLast? with
    | none => rw [hg] at hz'; rw [hz']; decide
    | some y => rw [hg] at hz'; rw [hz']; exact last_dec _ _ hg
  | false =>
   have hn := name_short m.name t h1
   rw [if_neg (by decide)]
   refine ⟨?_, ?_, hn.1, hn.2⟩
   ·unfold lng at hl
    simp only [decide_eq_false_iff_not] at hl
    rw [List.length_append, List.length_cons, List.length_nil]
    omega
   ·intro z hz
    rw [List.getLast?_concat] at hz
    rw [← Option.some.inj hz]; decide
 have hc := cut_head (nameB A.length m.name) (Lib.decDigits u) [48] [48] [49, 48, 48, 54, 52, 52] m.data.length m.data r hN.1 (by have := zdec_len u 11 (by omega); omega) (by decide) (by decide) (by decide) rfl (by omega) hN.2.1 (last_dec u)
 have e : memB A.length m ++ r = headB (nameB A.length m.name) (Lib.decDigits u) [48] [48] [49, 48, 48, 54, 52, 52] (Lib.decDigits m.data.length) ++ dataB m.data ++ r := by
  unfold memB; rw [hd, zdec_nat]
 have hne : memB A.length m ++ r ≠ [] := fun e1 => by
  rw [e] at e1
  rw [e1] at hc
  cases hc
 rw [scanP, if_neg hne, e, hc]
 dsimp only
 rw [if_neg hN.2.2.2, hN.2.2.1, valP_dec u (by omega)]
 dsimp only
 rw [← hu]
 rfl
theorem scan_body (t : Bs) : ∀ (ms : List Mv) (A B : Bs) (k : Nat) (l : List Mm), (∀ m ∈ ms, okM m = true) → (∀ m ∈ ms, m.data.length ≤ 65536) → A.length + (tbl ms).length ≤ 65536 → (tbl ms ≠ [] → t = A ++ tbl ms ++ B) → ms.length ≤ k → scanP k t (bodyB A.length ms) l = some (l ++ ms.map tE)
 | [], A, B, k, l, _, _, _, _, _ => by
  cases k <;> simp [scanP, bodyB]
 | m :: r, A, B, k, l, h1, h2, h3, h4, h5 => by
  obtain ⟨j, rfl⟩ : ∃ j, k = j + 1 := ⟨k - 1, by simp only [List.length_cons] at h5; omega⟩
  have ht : (tbl (m :: r)).length = wtT m + (tbl r).length := by rw [tbl_len, tbl_len]; rfl
  rw [bodyB, scan_member m A (tbl r ++ B) (bodyB (A.length + wtT m) r) j l (h1 m (by simp)) (h2 m (by simp)) (by omega) t]
  ·cases hl : lng m.name with
   | true =>
    have hw : wtT m = (m.name ++ [47, 10]).length := by unfold wtT; rw [hl]; simp
    have ih := scan_body t r (A ++ (m.name ++ [47, 10])) B j (l ++ [tE m]) (fun x hx => h1 x (by simp [hx])) (fun x hx => h2 x (by simp [hx])) (by rw [List.length_append]; omega) (fun hne => by
     rw [h4 (by simp [tbl, hl]), tbl, if_pos hl]; simp only [List.append_assoc]) (by simp only [List.length_cons] at h5; omega)
    rw [List.length_append, ← hw] at ih
    rw [ih, List.map_cons, List.append_assoc]
    rfl
   | false =>
    have hw : wtT m = 0 := by unfold wtT; rw [hl]; simp
    have htb : tbl (m :: r) = tbl r := by simp [tbl, hl]
    have ih := scan_body t r A B j (l ++ [tE m]) (fun x hx => h1 x (by simp [hx])) (fun x hx => h2 x (by simp [hx])) (by omega) (fun hne => by
     rw [h4 (by rw [htb]; exact hne), htb]) (by simp only [List.length_cons] at h5; omega)
    rw [hw, Nat.add_zero, ih, List.map_cons, List.append_assoc]
    rfl
  ·intro hl
   rw [h4 (by simp [tbl, hl]), tbl, if_pos hl]; simp only [List.append_assoc]
theorem sum_data (ms : List Mv) : ∀ m ∈ ms, m.data.length ≤ sumM wtD ms := fun m hm => by
 have h1 := sumM_mem wtD hm
 have h2 : m.data.length ≤ wtD m := by unfold wtD evn; omega
 omega
theorem zwrong_zero {ms : List Mv} (h : wrongR ms = 0) : ms.length ≤ 5000 ∧ lenA ms ≤ 65536 ∧ ∀ m ∈ ms, okM m = true := by
 unfold wrongR at h
 split at h
 ·cases h
 ·rename_i h1
  split at h
  ·rename_i h2
   exact ⟨by omega, by omega, fun m hm => List.all_eq_true.1 h2 m hm⟩
  ·cases h
theorem scan_arch (ms : List Mv) (h : wrongR ms = 0) (k : Nat) (hk : 5001 ≤ k) : scanP k [] ((archB ms).drop 8) [] = some (ms.map tE) := by
 obtain ⟨h1, h2, h3⟩ := zwrong_zero h
 have hlen := h2
 unfold lenA at hlen
 have hsd := sum_data ms
 have e8 : (archB ms).drop 8 = tableB ms ++ bodyB 0 ms := by
  unfold archB; rw [List.append_assoc, List.drop_left' (show magicB.length = 8 from rfl)]
 rw [e8]
 unfold tableB
 have htl := tbl_len ms
 by_cases ht : 0 < (tbl ms).length
 ·rw [if_pos ht]
  have hs : 0 < sumM wtT ms := by omega
  rw [if_pos hs] at hlen
  unfold evn at hlen
  obtain ⟨j, rfl⟩ : ∃ j, k = j + 1 := ⟨k - 1, by omega⟩
  have hc := cut_head [47, 47] [] [] [] [] (tbl ms).length (tbl ms) (bodyB 0 ms) (by decide) (by decide) (by decide) (by decide) (by decide) rfl (by omega) (by simp) (by simp)
  rw [zdec_nat]
  have hne : headB [47, 47] [] [] [] [] (Lib.decDigits (tbl ms).length) ++ dataB (tbl ms) ++ bodyB 0 ms ≠ [] := fun e1 => by
   rw [e1] at hc; cases hc
  rw [scanP, if_neg hne, hc]
  dsimp only
  rw [if_pos rfl]
  have := scan_body (tbl ms) ms [] [] j [] h3 (fun m hm => by have := hsd m hm; omega) (by simp only [List.length_nil]; omega) (fun _ => by simp) (by omega)
  simpa using this
 ·rw [if_neg ht]
  have := scan_body [] ms [] [] k [] h3 (fun m hm => by have := hsd m hm; omega) (by simp only [List.length_nil]; omega) (fun hne => absurd (List.length_pos_iff.2 hne) ht) (by omega)
  simpa using this
end Go.Proofs.YtabmnkddmdffkaaGreatDoor.Arc
namespace Go.Proofs.YtabmnkddmdffkaaGreatDoor.Arc
open Go.RowKit Go.Maps
def low (c : UInt8) : Int := bits BinOp.or IntKind.u8 c.toNat 32
theorem lower_any (c : UInt8) (w : World) : Calls Tryz.prog 208 #[.int .u8 c.toNat] w fun r w' => r = .returned (.int .u8 (low c)) ∧ w' = w := by
 go_enter Tryz.func208, Tryz.ntmps208
 go_wp2
 go_ret
 exact ⟨rfl, rfl⟩
theorem below_bytes (w : World) (s : ByteArray) : Below w.heap.size w (Lib.bytesWorld w 5 s) := ⟨rfl, rfl, rfl, by rw [Lib.bytesWorld_size]; omega, fun k hk => Lib.bytesWorld_at_old w 5 s k hk⟩
def PuR (s : Bs) (r : Ending) : Prop := (∃ n, valP s = some n ∧ r = .returned (.tuple #[.int .u64 n, .nilIface])) ∨ (valP s = none ∧ r = .returned (.tuple #[.int .u64 0, .iface 273 (.int .i64 2)]))
theorem valP_bad (s : Bs) (k : Nat) (h : k < s.length) (hd : ¬ dgt (s.getD k 0)) : valP s = none := by
 unfold valP
 split
 ·rfl
 ·rw [if_neg]
  intro ha
  refine hd ((dgtB_iff _).1 (List.all_eq_true.1 ha _ ?_))
  rw [List.getD_eq_getElem?_getD, List.getElem?_eq_getElem h]
  exact List.getElem_mem h
theorem valP_good (s : Bs) (h0 : 0 < s.length) (hd : ∀ j, j < s.length → dgt (s.getD j 0)) : valP s = some (numF 0 s) := by
 unfold valP
 rw [if_neg (List.length_pos_iff.1 h0), if_pos]
 refine List.all_eq_true.2 fun c hc => (dgtB_iff c).2 ?_
 obtain ⟨j, hj, rfl⟩ := List.getElem_of_mem hc
 have := hd j hj
 rw [List.getD_eq_getElem?_getD, List.getElem?_eq_getElem hj] at this
 exact this
theorem numF_take (s : Bs) (k : Nat) (h : k < s.length) : numF 0 (s.take (k + 1)) = stp (numF 0 (s.take k)) (s.getD k 0) := by
 rw [List.take_add_one, List.getElem?_eq_getElem h]
 simp only [Option.toList]
 rw [numF_snoc, List.getD_eq_getElem?_getD, List.getElem?_eq_getElem h]
 rfl
theorem numF_small (s : Bs) (k : Nat) (hk : k ≤ s.length) (h16 : k < 16) (hd : ∀ j, j < k → dgt (s.getD j 0)) : numF 0 (s.take k) < 1000000000000000 := by
 have h := numF_lt (s.take k) 0 fun c hc => by
  obtain ⟨j, hj, rfl⟩ := List.getElem_of_mem hc
  rw [List.length_take] at hj
  have := hd j (by omega)
  rw [List.getD_eq_getElem?_getD, List.getElem?_eq_getElem (by omega)] at this
  simpa using this
 rw [Nat.zero_add, Nat.one_mul, List.length_take, Nat.min_eq_left hk] at h
 have : 10 ^ k ≤ 10 ^ 15 := Nat.pow_le_pow_right (by decide) (by omega)
 omega
set_option maxRecDepth 100000 in
set_option maxHeartbeats 4000000 in
theorem pu_any (s : ByteArray) (w : World) (hs : s.size ≤ 16) (hs0 : 0 < s.size) : Calls Tryz.prog 203 #[.string s, .int .i64 10, .int .i64 62] w fun r w' => Below w.heap.size w w' ∧ PuR (tl s) r := by
 have hcv := Lib.run_convert_string_bytes (P := Tryz.prog) w 9 57 5 s Tryz.underlying9 Tryz.underlying57 Tryz.underlying5
 have hne : s.toList.isEmpty = false := by
  rw [Lib.toList_data]
  have := Lib.size_eq s
  cases h : s.data.toList with
  | nil => rw [h, List.length_nil] at this; omega
  | cons a b => rfl
 have hb := below_bytes w s
 have hcell : ∀ j, j < s.size → (Lib.bytesWorld w 5 s).cell? ⟨w.heap.size, j, none⟩ = some (.int .u8 ((tl s).getD j 0).toNat) := fun j hj => Lib.bytesWorld_cell w 5 s j hj
 have hln := tl_len s
 generalize Lib.bytesWorld w 5 s = W at hcv hb hcell
 have HC := hide' hcell
 have HB := hide' hb
 clear hcell hb
 go_enter Tryz.func203, Tryz.ntmps203
 go_wp2
 go_loopw [12, 13, 101] (fun u n i wr => ∃ k : Nat, k ≤ s.size ∧ u = .bool false ∧ i = .int .i64 k ∧ n = .int .u64 (numF 0 ((tl s).take k) : Nat) ∧ Hid (∀ j, j < k → dgt ((tl s).getD j 0)) ∧ wr = W) (fun _ _ i _ => s.size - (intOf i).toNat)
 case atStart => exact ⟨0, by omega, rfl, rfl, by rw [List.take_zero, numF_nil]; rfl, hide' fun j hj => absurd hj (Nat.not_lt_zero _), rfl⟩
 case round =>
  obtain ⟨k, hk, rfl, rfl, rfl, hD, rfl⟩ := hrel
  by_cases hks : k < s.size
  ·have hc := HC.out k hks
   have hsm := numF_small (tl s) k (by omega) (by omega) hD.out
   have hnx := numF_take (tl s) k (by omega)
   rw [stp_eq] at hnx
   have HP := hide' (fun h => valP_bad (tl s) k (by omega) h)
   have HNX := hide' hnx
   have HD := hide' hD.out
   have ql := fun w => lower_any ((tl s).getD k 0) w
   have hl : ((k : Int) < (s.size : Int)) := by omega
   have hd0 : dgt ((tl s).getD k 0) ↔ 48 ≤ ((tl s).getD k 0).toNat ∧ ((tl s).getD k 0).toNat ≤ 57 := Iff.rfl
   have HDG := hide' hd0
   generalize low ((tl s).getD k 0) = z at ql
   clear hnx hD hd0
   obtain ⟨M, hM⟩ : ∃ M, M = numF 0 ((tl s).take k) := ⟨_, rfl⟩
   rw [← hM] at hsm ⊢
   have HM := hide' hM
   clear hM
   obtain ⟨cN, hcN⟩ : ∃ c, c = ((tl s).getD k 0).toNat := ⟨_, rfl⟩
   rw [← hcN] at hc ql
   have HCN := hide' hcN
   clear hcN hcv
   by_cases hdg : 48 ≤ cN ∧ cN ≤ 57
   ·obtain ⟨g1, g2⟩ := hdg
    have f1 : ¬ (cN : Int) = 95 := by omega
    have f1' : ((cN : Int) == 95) = false := by simp; omega
    have f2 : (48 : Int) ≤ (cN : Int) := by omega
    have f3 : (cN : Int) ≤ 57 := by omega
    obtain ⟨d, hd⟩ : ∃ d : Nat, d = cN - 48 := ⟨_, rfl⟩
    have w1 : IntKind.u8.wrap ((cN : Int) - 48) = (d : Int) := by rw [IntKind.wrap_u8]; omega
    have f4 : ¬ (10 : Int) ≤ (d : Int) := by omega
    have f5 : ¬ (1844674407370955162 : Int) ≤ (M : Int) := by omega
    have w2 : IntKind.u64.wrap ((M : Int) * 10) = (M : Int) * 10 := by rw [IntKind.wrap_u64]; omega
    have w3 : IntKind.u64.wrap (d : Int) = (d : Int) := by rw [IntKind.wrap_u64]; omega
    have w4 : IntKind.u64.wrap ((M : Int) * 10 + (d : Int)) = (M : Int) * 10 + (d : Int) := by rw [IntKind.wrap_u64]; omega
    have f6 : ¬ (M : Int) * 10 + (d : Int) < (M : Int) * 10 := by omega
    have f7 : ¬ (4611686018427387903 : Int) < (M : Int) * 10 + (d : Int) := by omega
    have HDD := hide' hd
    clear hd
    go_wp2
    refine ⟨⟨k + 1, by omega, rfl, by go_num, ?_, hide' fun j hj => ?_, trivial⟩, by simp [intOf]; omega⟩
    ·have e : numF 0 (List.take (k + 1) (tl s)) = M * 10 + d := by rw [HNX.out, ← HM.out, HDD.out, HCN.out]
     rw [e]
     simp
    ·by_cases hjk : j = k
     ·subst hjk
      exact HDG.out.2 (by rw [← HCN.out]; exact ⟨g1, g2⟩)
     ·exact HD.out j (by omega)
   ·have hsyn : valP (tl s) = none := HP.out fun h => hdg (by rw [HCN.out]; exact h)
    have HS := hide' hsyn
    clear hsyn HP HNX HD HDG HCN HM HC hsm hln hne
    by_cases a1 : cN = 95
    ·have f1 : (cN : Int) = 95 := by omega
     rw [f1] at ql hc
     clear hdg a1 f1
     by_cases z1 : 97 ≤ z
     ·by_cases z2 : z ≤ 122
      ·have w5 : IntKind.u8.wrap (z - 97) = z - 97 := by rw [IntKind.wrap_u8]; omega
       have w6 : IntKind.u8.wrap (z - 97 + 10) = z - 97 + 10 := by rw [IntKind.wrap_u8]; omega
       have f9 : (10 : Int) ≤ z - 97 + 10 := by omega
       go_wp2_with (go_at_call 208; refine (ql _).mono ?_; rintro e w' ⟨rfl, rfl⟩)
       go_ret2
       exact ⟨HB.out, .inr ⟨HS.out, rfl⟩⟩
      ·go_wp2_with (go_at_call 208; refine (ql _).mono ?_; rintro e w' ⟨rfl, rfl⟩)
       go_ret2
       exact ⟨HB.out, .inr ⟨HS.out, rfl⟩⟩
     ·go_wp2_with (go_at_call 208; refine (ql _).mono ?_; rintro e w' ⟨rfl, rfl⟩)
      go_ret2
      exact ⟨HB.out, .inr ⟨HS.out, rfl⟩⟩
    ·have f1 : ¬ (cN : Int) = 95 := by omega
     have f1' : ((cN : Int) == 95) = false := by simp; omega
     by_cases a2 : 48 ≤ cN
     ·have f2 : (48 : Int) ≤ (cN : Int) := by omega
      have f3 : ¬ (cN : Int) ≤ 57 := by omega
      clear hdg a1 a2
      by_cases z1 : 97 ≤ z
      ·by_cases z2 : z ≤ 122
       ·have w5 : IntKind.u8.wrap (z - 97) = z - 97 := by rw [IntKind.wrap_u8]; omega
        have w6 : IntKind.u8.wrap (z - 97 + 10) = z - 97 + 10 := by rw [IntKind.wrap_u8]; omega
        have f9 : (10 : Int) ≤ z - 97 + 10 := by omega
        go_wp2_with (go_at_call 208; refine (ql _).mono ?_; rintro e w' ⟨rfl, rfl⟩)
        go_ret2
        exact ⟨HB.out, .inr ⟨HS.out, rfl⟩⟩
       ·go_wp2_with (go_at_call 208; refine (ql _).mono ?_; rintro e w' ⟨rfl, rfl⟩)
        go_ret2
        exact ⟨HB.out, .inr ⟨HS.out, rfl⟩⟩
      ·go_wp2_with (go_at_call 208; refine (ql _).mono ?_; rintro e w' ⟨rfl, rfl⟩)
       go_ret2
       exact ⟨HB.out, .inr ⟨HS.out, rfl⟩⟩
     ·have f2 : ¬ (48 : Int) ≤ (cN : Int) := by omega
      clear hdg a1 a2
      by_cases z1 : 97 ≤ z
      ·by_cases z2 : z ≤ 122
       ·have w5 : IntKind.u8.wrap (z - 97) = z - 97 := by rw [IntKind.wrap_u8]; omega
        have w6 : IntKind.u8.wrap (z - 97 + 10) = z - 97 + 10 := by rw [IntKind.wrap_u8]; omega
        have f9 : (10 : Int) ≤ z - 97 + 10 := by omega
        go_wp2_with (go_at_call 208; refine (ql _).mono ?_; rintro e w' ⟨rfl, rfl⟩)
        go_ret2
        exact ⟨HB.out, .inr ⟨HS.out, rfl⟩⟩
       ·go_wp2_with (go_at_call 208; refine (ql _).mono ?_; rintro e w' ⟨rfl, rfl⟩)
        go_ret2
        exact ⟨HB.out, .inr ⟨HS.out, rfl⟩⟩
      ·go_wp2_with (go_at_call 208; refine (ql _).mono ?_; rintro e w' ⟨rfl, rfl⟩)
       go_ret2
       exact ⟨HB.out, .inr ⟨HS.out, rfl⟩⟩
  ·have hke : k = s.size := by omega
   subst hke
   have hv := valP_good (tl s) (by omega) (fun j hj => hD.out j (by omega))
   have e : (tl s).take s.size = tl s := List.take_of_length_le (by omega)
   rw [e]
   have HV := hide' hv
   clear hv hD HC hcv hk hks
   go_wp2
   go_ret2
   exact ⟨HB.out, .inl ⟨_, HV.out, rfl⟩⟩
end Go.Proofs.YtabmnkddmdffkaaGreatDoor.Arc
namespace Go.Proofs.YtabmnkddmdffkaaGreatDoor.Arc
open Go.RowKit Go.Maps Go.Shelf
def EvS (w : World) : Prop := ∃ ev, w.cell? ⟨7, 0, none⟩ = some ev ∧ (ev = .nilIface ∨ ∃ te pe, ev = .iface te pe)
theorem EvS.below {w w' : World} {B : Nat} (h : EvS w) (hb : Below B w w') (hB : 7 < B) : EvS w' := by
 obtain ⟨ev, h1, h2⟩ := h
 exact ⟨ev, (hb.cell (p := ⟨7, 0, none⟩) hB).trans h1, h2⟩
theorem toErr_any (fn s : ByteArray) (w : World) (hs : s.size ≤ 16) (he : EvS w) : Calls Tryz.prog 204 #[.string fn, .string s, .int .i64 10, .int .i64 62, .iface 273 (.int .i64 2)] w fun r w' => (∃ N, r = .returned (.iface 275 (.pointer (some ⟨N, 0, none⟩)))) ∧ Below w.heap.size w w' := by
 obtain ⟨ev, h1, h2⟩ := he
 have q : Calls Tryz.prog 204 #[.string fn, .string s, .int .i64 10, .int .i64 62, .iface 273 (.int .i64 2)] w fun e w' => ∃ N, e = .returned (.iface 275 (.pointer (some ⟨N, 0, none⟩))) ∧ w.heap.size ≤ N ∧ w'.heap[N]? = some (.cells #[.string fn, .string s, ev] 284 (0, 0)) ∧ Below w.heap.size w w' :=
  AnyPu.strconv_toError_syntax { Tryz.laysPu14 with } fn s 10 62 ev w (by omega) h1 h2
 refine q.mono ?_
 rintro r w' ⟨N, rfl, _, _, hb⟩
 exact ⟨⟨N, rfl⟩, hb⟩
def PuP (s : Bs) (r : Ending) : Prop := (∃ n, valP s = some n ∧ r = .returned (.tuple #[.int .u64 n, .nilIface])) ∨ (valP s = none ∧ ∃ N, r = .returned (.tuple #[.int .u64 0, .iface 275 (.pointer (some ⟨N, 0, none⟩))]))
theorem pu_all (s : ByteArray) (w : World) (hs : s.size ≤ 16) : Calls Tryz.prog 203 #[.string s, .int .i64 10, .int .i64 62] w fun r w' => Below w.heap.size w w' ∧ PuR (tl s) r := by
 by_cases h0 : 0 < s.size
 ·exact pu_any s w hs h0
 ·have he : s = ⟨#[]⟩ := tl_inj _ _ (List.length_eq_zero_iff.1 (by rw [tl_len]; omega))
  subst he
  refine (Tryz.internal_strconv_ParseUint_empty 10 62 w).mono ?_
  rintro r w' ⟨rfl, rfl⟩
  exact ⟨Below.refl _ _, .inr ⟨rfl, rfl⟩⟩
set_option maxHeartbeats 1000000 in
theorem pub_any (s : ByteArray) (w : World) (hs : s.size ≤ 16) (he : EvS w) (h3 : 9 < w.heap.size) : Calls Tryz.prog 191 #[.string s, .int .i64 10, .int .i64 62] w fun r w' => Below w.heap.size w w' ∧ PuP (tl s) r := by
 have q := pu_all s w hs
 have qe := fun w he => toErr_any ⟨#[80, 97, 114, 115, 101, 85, 105, 110, 116]⟩ s w hs he
 have hq0 : ∀ w, (binOp BinOp.neq 62 .nilIface .nilIface).run Tryz.prog w = .ok (.bool false) w := fun w => by kernel_rfl
 have hq1 : ∀ w, (binOp BinOp.neq 62 (.iface 273 (.int .i64 2)) .nilIface).run Tryz.prog w = .ok (.bool true) w := fun w => by kernel_rfl
 have HE := hide' he
 clear he
 go_enter Tryz.func191, Tryz.ntmps191
 go_wp2_with fail
 refine q.mono ?_
 rintro r w1 ⟨hb1, ⟨n, hv, rfl⟩ | ⟨hv, rfl⟩⟩
 ·have HV := hide' hv
  clear hv q
  go_wp2_with fail
  go_ret2
  exact ⟨hb1, .inl ⟨n, HV.out, rfl⟩⟩
 ·have HV := hide' hv
  have he1 := HE.out.below hb1 (by omega)
  clear hv q
  go_wp2_with fail
  refine (qe _ he1).mono ?_
  rintro r w2 ⟨⟨N, rfl⟩, hb2⟩
  have HB := hide' (hb1.trans (hb2.mono hb1.size))
  clear hb1 hb2
  go_wp2_with fail
  go_ret2
  exact ⟨HB.out, .inr ⟨HV.out, N, rfl⟩⟩
def VlR (s : Bs) (r : Ending) : Prop := (∃ n : Nat, valP s = some n ∧ r = .returned (.tuple #[.int .i64 n, .bool true])) ∨ (valP s = none ∧ r = .returned (.tuple #[.int .i64 0, .bool false]))
theorem valP_lt (s : Bs) (h : s.length ≤ 16) (n : Nat) (hv : valP s = some n) : n < 10000000000000000 := by
 unfold valP at hv
 split at hv
 ·cases hv
 ·split at hv
  ·rename_i ha
   have e := Option.some.inj hv
   have := numF_lt s 0 fun c hc => (dgtB_iff c).1 (List.all_eq_true.1 ha c hc)
   rw [e, Nat.zero_add, Nat.one_mul] at this
   have h2 : 10 ^ s.length ≤ 10 ^ 16 := Nat.pow_le_pow_right (by decide) h
   omega
  ·cases hv
set_option maxHeartbeats 1000000 in
theorem value_any (s : ByteArray) (w : World) (hs : s.size ≤ 16) (he : EvS w) (h3 : 9 < w.heap.size) : Calls Tryz.prog 166 #[.string s] w fun r w' => Below w.heap.size w w' ∧ VlR (tl s) r := by
 have q := pub_any s w hs he h3
 have hq0 : ∀ w, (binOp BinOp.eql 62 .nilIface .nilIface).run Tryz.prog w = .ok (.bool true) w := fun w => by kernel_rfl
 clear he
 go_enter Tryz.func166, Tryz.ntmps166
 go_wp2_with fail
 refine q.mono ?_
 rintro r w1 ⟨hb1, ⟨n, hv, rfl⟩ | ⟨hv, N, rfl⟩⟩
 ·have hlt := valP_lt _ (by rw [tl_len]; exact hs) n hv
  have hw : IntKind.i64.wrap (n : Int) = n := by rw [IntKind.wrap_i64]; omega
  have HV := hide' hv
  clear hv q
  go_wp2_with fail
  go_quiet (fail)
  go_wp2_with fail
  go_ret2
  exact ⟨hb1.trans (below_drewn _), .inl ⟨n, HV.out, rfl⟩⟩
 ·have hq1 : ∀ w, (binOp BinOp.eql 62 (.iface 275 (.pointer (some ⟨N, 0, none⟩))) .nilIface).run Tryz.prog w = .ok (.bool false) w := fun w => by kernel_rfl
  have HV := hide' hv
  clear hv q
  go_wp2_with fail
  go_quiet (fail)
  go_wp2_with fail
  go_ret2
  exact ⟨hb1.trans (below_drewn _), .inr ⟨HV.out, rfl⟩⟩
end Go.Proofs.YtabmnkddmdffkaaGreatDoor.Arc
