import Derived.Test.YtabmnkddmdffkaaGreatDoorProg
import Derived.WalkKit
import Derived.WalkSpells
import Derived.WalkLawsBesides
import Derived.WalkMore
import Derived.Lib.Strings
import Derived.Lib.IndexBytes
namespace Go.Proofs.YtabmnkddmdffkaaGreatDoor
def cutg : List UInt8 → List UInt8 → List (List UInt8)
 | cur, [] => [cur]
 | cur, c :: r => if c = 47 then cur :: cutg [] r else cutg (cur ++ [c]) r
def cut (l : List UInt8) : List (List UInt8) := cutg [] l
def kstep (st : List (List UInt8)) (x : List UInt8) : List (List UInt8) := if x = [] ∨ x = [46] then st else if x = [46, 46] then st.dropLast else st ++ [x]
def keep : List (List UInt8) → List (List UInt8) → List (List UInt8)
 | st, [] => st
 | st, x :: r => keep (kstep st x) r
def sl : Bool → List (List UInt8) → List UInt8
 | _, [] => []
 | f, x :: r => (if f then [] else [47]) ++ (x ++ sl false r)
def kpt (l : List UInt8) : List (List UInt8) := keep [] (cut l)
def clean (l : List UInt8) : List UInt8 := sl true (kpt l)
def nms (l : List UInt8) : List (List UInt8) := (cut l).filter (fun x => !x.isEmpty)
theorem keep_append (A B : List (List UInt8)) : ∀ st, keep st (A ++ B) = keep (keep st A) B := by
 induction A with
 | nil => intro st; rfl
 | cons x r ih => intro st; exact ih _
theorem keep_filter (L : List (List UInt8)) : ∀ st, keep st (L.filter (fun x => !x.isEmpty)) = keep st L := by
 induction L with
 | nil => intro st; rfl
 | cons x r ih =>
  intro st
  cases x with
  | nil => simp only [List.filter, List.isEmpty_nil, Bool.not_true, keep]; rw [ih]; rfl
  | cons c m => simp only [List.filter, List.isEmpty_cons, Bool.not_false, keep]; rw [ih]
theorem keep_nms (l : List UInt8) : keep [] (nms l) = kpt l := keep_filter _ _
theorem cutg_word (m : List UInt8) : ∀ cur rest : List UInt8, 47 ∉ m → cutg cur (m ++ rest) = cutg (cur ++ m) rest := by
 induction m with
 | nil => intro cur rest _; simp
 | cons c m ih =>
  intro cur rest h
  have hc : ¬ c = 47 := fun e => h (by simp [e])
  rw [List.cons_append, cutg, if_neg hc, ih _ _ (fun hd => h (by simp [hd]))]
  simp
theorem cut_one (x : List UInt8) (h : 47 ∉ x) : cut x = [x] := by
 have := cutg_word x [] [] h
 rw [List.append_nil, List.nil_append] at this
 exact this
theorem cut_more (x r : List UInt8) (h : 47 ∉ x) : cut (x ++ 47 :: r) = x :: cut r := by
 unfold cut
 rw [cutg_word x [] _ h, List.nil_append, cutg, if_pos rfl]
theorem cutg_no (l : List UInt8) : ∀ cur : List UInt8, 47 ∉ cur → ∀ x ∈ cutg cur l, 47 ∉ x := by
 induction l with
 | nil => intro cur h x hx; simp [cutg] at hx; exact hx ▸ h
 | cons c r ih =>
  intro cur h x hx
  by_cases hc : c = 47
  ·simp only [cutg, hc, if_true] at hx
   rcases List.mem_cons.1 hx with rfl | hx
   ·exact h
   ·exact ih [] (by simp) x hx
  ·simp only [cutg, hc, if_false] at hx
   exact ih (cur ++ [c]) (by simp [h, Ne.symm hc]) x hx
theorem cut_no (l : List UInt8) : ∀ x ∈ cut l, 47 ∉ x := cutg_no l [] (by simp)
def good (x : List UInt8) : Prop := x ≠ [] ∧ 47 ∉ x ∧ x ≠ [46] ∧ x ≠ [46, 46]
theorem mem_dropLast {α : Type} {l : List α} {x : α} (h : x ∈ l.dropLast) : x ∈ l := List.dropLast_subset l h
theorem keep_good (L : List (List UInt8)) : ∀ st, (∀ x ∈ L, 47 ∉ x) → (∀ x ∈ st, good x) → ∀ x ∈ keep st L, good x := by
 induction L with
 | nil => intro st _ h; exact h
 | cons y r ih =>
  intro st hL hst
  refine ih _ (fun x hx => hL x (by simp [hx])) ?_
  intro x hx
  unfold kstep at hx
  split at hx
  ·exact hst x hx
  ·split at hx
   ·exact hst x (mem_dropLast hx)
   ·rename_i h1 h2
    rcases List.mem_append.1 hx with hx | hx
    ·exact hst x hx
    ·obtain rfl : x = y := by simpa using hx
     exact ⟨fun e => h1 (.inl e), hL x (by simp), fun e => h1 (.inr e), h2⟩
theorem kpt_good (l : List UInt8) : ∀ x ∈ kpt l, good x := keep_good _ _ (cut_no l) (by simp)
theorem keep_goods (K : List (List UInt8)) : ∀ st, (∀ x ∈ K, good x) → keep st K = st ++ K := by
 induction K with
 | nil => intro st _; simp [keep]
 | cons x r ih =>
  intro st h
  have hx := h x (by simp)
  have : kstep st x = st ++ [x] := by unfold kstep; rw [if_neg (by intro e; rcases e with e | e; exact hx.1 e; exact hx.2.2.1 e), if_neg hx.2.2.2]
  rw [keep, this, ih _ (fun y hy => h y (by simp [hy]))]
  simp
theorem cut_slf (r : List (List UInt8)) : ∀ x : List UInt8, 47 ∉ x → (∀ y ∈ r, 47 ∉ y) → cut (x ++ sl false r) = x :: r := by
 induction r with
 | nil => intro x h _; simp only [sl, List.append_nil]; exact cut_one _ h
 | cons y r ih =>
  intro x h hr
  have e : x ++ sl false (y :: r) = x ++ 47 :: (y ++ sl false r) := by simp [sl]
  rw [e, cut_more _ _ h, ih y (hr y (by simp)) (fun z hz => hr z (by simp [hz]))]
theorem cut_sl (K : List (List UInt8)) (hne : K ≠ []) (h : ∀ y ∈ K, 47 ∉ y) : cut (sl true K) = K := by
 cases K with
 | nil => exact absurd rfl hne
 | cons x r =>
  have e : sl true (x :: r) = x ++ sl false r := by simp [sl]
  rw [e, cut_slf r x (h x (by simp)) (fun z hz => h z (by simp [hz]))]
theorem nms_sl (K : List (List UInt8)) (h : ∀ y ∈ K, good y) : nms (sl true K) = K := by
 by_cases hne : K = []
 ·subst hne; rfl
 ·unfold nms
  rw [cut_sl K hne (fun y hy => (h y hy).2.1)]
  refine List.filter_eq_self.2 fun y hy => ?_
  have := (h y hy).1
  cases y with
  | nil => exact absurd rfl this
  | cons _ _ => rfl
theorem kpt_sl (K : List (List UInt8)) (h : ∀ y ∈ K, good y) : kpt (sl true K) = K := by
 rw [← keep_nms, nms_sl K h, keep_goods K [] h]; rfl
theorem nms_clean (l : List UInt8) : nms (clean l) = kpt l := nms_sl _ (kpt_good l)
/- lengths -/
def tw : List (List UInt8) → Nat
 | [] => 0
 | x :: r => 1 + x.length + tw r
theorem tw_append (A B : List (List UInt8)) : tw (A ++ B) = tw A + tw B := by
 induction A with
 | nil => simp [tw]
 | cons x r ih => simp only [List.cons_append, tw, ih]; omega
theorem tw_dropLast (A : List (List UInt8)) : tw A.dropLast ≤ tw A := by
 rcases List.eq_nil_or_concat A with rfl | ⟨B, x, rfl⟩
 ·exact Nat.le_refl _
 ·rw [List.concat_eq_append, List.dropLast_concat, tw_append]; omega
theorem cutg_tw (l : List UInt8) : ∀ cur : List UInt8, tw (cutg cur l) = cur.length + l.length + 1 := by
 induction l with
 | nil => intro cur; simp [cutg, tw]; omega
 | cons c r ih =>
  intro cur
  by_cases hc : c = 47
  ·have := ih []
   simp [cutg, hc, tw, this]; omega
  ·have := ih (cur ++ [c])
   simp [cutg, hc, this]; omega
theorem cut_tw (l : List UInt8) : tw (cut l) = l.length + 1 := by have := cutg_tw l []; simpa [cut] using this
theorem kstep_tw (st : List (List UInt8)) (x : List UInt8) : tw (kstep st x) ≤ tw st + 1 + x.length := by
 unfold kstep
 split
 ·omega
 ·split
  ·have := tw_dropLast st; omega
  ·rw [tw_append]; simp [tw]; omega
theorem keep_tw (L : List (List UInt8)) : ∀ st, tw (keep st L) ≤ tw st + tw L := by
 induction L with
 | nil => intro st; simp [keep, tw]
 | cons x r ih =>
  intro st
  have h1 := ih (kstep st x)
  have h2 := kstep_tw st x
  simp only [keep, tw]; omega
theorem kpt_tw (l : List UInt8) : tw (kpt l) ≤ l.length + 1 := by
 have := keep_tw (cut l) []
 rw [cut_tw] at this
 simpa [tw, kpt] using this
theorem sl_tw (K : List (List UInt8)) : ∀ f, (sl f K).length ≤ tw K := by
 induction K with
 | nil => intro f; simp [sl]
 | cons x r ih =>
  intro f
  have := ih false
  simp only [sl, tw, List.length_append]
  cases f <;> simp <;> omega
theorem len_tw (K : List (List UInt8)) : K.length ≤ tw K := by
 induction K with
 | nil => exact Nat.le_refl _
 | cons x r ih => simp only [tw, List.length_cons]; omega
theorem clean_len (l : List UInt8) : (clean l).length ≤ l.length + 1 := Nat.le_trans (sl_tw _ _) (kpt_tw l)
theorem sl_append (A B : List (List UInt8)) : ∀ f, sl f (A ++ B) = sl f A ++ sl (f && A.isEmpty) B := by
 induction A with
 | nil => intro f; simp [sl]
 | cons x r ih => intro f; simp [sl, ih]
theorem sl_snoc (A : List (List UInt8)) (x : List UInt8) (h : A ≠ []) : sl true (A ++ [x]) = sl true A ++ 47 :: x := by
 rw [sl_append]
 cases A with
 | nil => exact absurd rfl h
 | cons _ _ => simp [sl]
/- places from the end: one more than the last place of c ahead of k, or 0 -/
def lpd (c : UInt8) (l : List UInt8) : Nat → Nat
 | 0 => 0
 | k + 1 => if l.getD k 0 = c then k + 1 else lpd c l k
/- the same, but a slash ends the search -/
def lps (c : UInt8) (l : List UInt8) : Nat → Nat
 | 0 => 0
 | k + 1 => if l.getD k 0 = c then k + 1 else if l.getD k 0 = 47 then 0 else lps c l k
def lp (c : UInt8) (l : List UInt8) : Nat := lpd c l l.length
def sp (l : List UInt8) : Nat := if lps 46 l l.length = 0 then l.length else lps 46 l l.length - 1
def dir (l : List UInt8) : List UInt8 := if lp 47 l = 0 then [46, 47] else l.take (lp 47 l)
def base (l : List UInt8) : List UInt8 := l.take (sp l)
def okn (x : List UInt8) : Bool := decide (x.length ≤ 255) && !x.contains 0 && !x.contains 10
def valid (l : List UInt8) : Bool := decide (l.length ≤ 1000) && decide (clean l = l) && (cut l).all okn
theorem all_filter (L : List (List UInt8)) : (L.filter (fun x => !x.isEmpty)).all okn = L.all okn := by
 induction L with
 | nil => rfl
 | cons x r ih =>
  cases x with
  | nil => simp only [List.filter, List.isEmpty_nil, Bool.not_true, List.all_cons, ih]; rfl
  | cons c m => simp only [List.filter, List.isEmpty_cons, Bool.not_false, List.all_cons, ih]
theorem valid_nms (l : List UInt8) : valid l = (decide (l.length ≤ 1000) && decide (clean l = l) && (nms l).all okn) := by unfold valid nms; rw [all_filter]
end Go.Proofs.YtabmnkddmdffkaaGreatDoor
namespace Go.Proofs.YtabmnkddmdffkaaGreatDoor
open Go.RowKit
theorem hide' {p : Prop} (h : p) : Hid p := h
def tl (x : ByteArray) : List UInt8 := x.data.toList
abbrev mk (l : List UInt8) : ByteArray := ⟨l.toArray⟩
theorem tl_len (s : ByteArray) : (tl s).length = s.size := (Lib.size_eq s).symm
theorem getD_at (s : ByteArray) (k : Nat) (h : k < s.size) : (tl s).getD k 0 = s[k] := by
 unfold tl
 rw [List.getD_eq_getElem?_getD, List.getElem?_eq_getElem (by simpa using h)]; rfl
theorem tl_inj (a b : ByteArray) (h : tl a = tl b) : a = b := by
 obtain ⟨⟨a⟩⟩ := a
 obtain ⟨⟨b⟩⟩ := b
 exact congrArg (fun l : List UInt8 => ByteArray.mk ⟨l⟩) h
theorem tl_mk (l : List UInt8) : tl (mk l) = l := by simp [tl]
theorem mk_tl (s : ByteArray) : mk (tl s) = s := tl_inj _ _ (tl_mk _)
theorem mk_size (l : List UInt8) : (mk l).size = l.length := by rw [← tl_len, tl_mk]
theorem ext_mk (s : ByteArray) (a b : Nat) : s.extract a b = mk (((tl s).drop a).take (b - a)) := tl_inj _ _ (by rw [tl_mk]; exact Lib.extract_data s a b)
theorem ext_drop (s : ByteArray) (a : Nat) : s.extract a s.size = mk ((tl s).drop a) := by
 rw [ext_mk, List.take_of_length_le (by rw [List.length_drop, tl_len]; omega)]
theorem ext_take (s : ByteArray) (b : Nat) : s.extract 0 b = mk ((tl s).take b) := by rw [ext_mk]; simp
theorem beq_no (a c : UInt8) (cn : Nat) (hcn : c.toNat = cn) (h : ¬ a = c) : ((a.toNat : Int) == (cn : Int)) = false := beq_eq_false_iff_ne.2 fun e => h (UInt8.toNat_inj.1 (by omega))
theorem beq_yes (a c : UInt8) (cn : Nat) (hcn : c.toNat = cn) (h : a = c) : ((a.toNat : Int) == (cn : Int)) = true := by rw [h, hcn]; simp
theorem ret_int {a b : Int} (h : a = b) : Ending.returned (.int .i64 a) = .returned (.int .i64 b) := by rw [h]
theorem ret_str {a b : ByteArray} (h : a = b) : Ending.returned (.string a) = .returned (.string b) := by rw [h]
theorem ret_bool {a b : Bool} (h : a = b) : Ending.returned (.bool a) = .returned (.bool b) := by rw [h]
end Go.Proofs.YtabmnkddmdffkaaGreatDoor
