/- Plain lists of bytes, of no program: the names of a path, what is left of them when it is cleaned, the parts of a word. -/
namespace Go.Proofs.YtabmnkddmdffkaaGreatDoor

def cutg : List UInt8 → List UInt8 → List (List UInt8)
  | cur, [] => [cur]
  | cur, c :: r => if c = 47 then cur :: cutg [] r else cutg (cur ++ [c]) r
/-- what stands between the slashes -/
def cut (l : List UInt8) : List (List UInt8) := cutg [] l
def kstep (st : List (List UInt8)) (x : List UInt8) : List (List UInt8) := if x = [] ∨ x = [46] then st else if x = [46, 46] then st.dropLast else st ++ [x]
def keep : List (List UInt8) → List (List UInt8) → List (List UInt8)
  | st, [] => st
  | st, x :: r => keep (kstep st x) r
/-- names with slashes between; f: is it the first one that comes? -/
def sl : Bool → List (List UInt8) → List UInt8
  | _, [] => []
  | f, x :: r => (if f then [] else [47]) ++ (x ++ sl false r)
/-- the names that are left of a path -/
def kpt (l : List UInt8) : List (List UInt8) := keep [] (cut l)
def clean (l : List UInt8) : List UInt8 := sl true (kpt l)
/-- the names that are not empty -/
def nms (l : List UInt8) : List (List UInt8) := (cut l).filter (fun x => !x.isEmpty)

theorem keep_append (A B : List (List UInt8)) : ∀ st, keep st (A ++ B) = keep (keep st A) B := by
  induction A with
  | nil => intro st; rfl
  | cons x r ih => intro st; exact ih _
theorem keep_filter (L : List (List UInt8)) : ∀ st, keep st (L.filter (fun x => !x.isEmpty)) = keep st L := by
  induction L with
  | nil => intro st; rfl
  | cons x r ih =>
    intro st
    cases x with
    | nil => simp only [List.filter, List.isEmpty_nil, Bool.not_true, keep]; rw [ih]; rfl
    | cons c m => simp only [List.filter, List.isEmpty_cons, Bool.not_false, keep]; rw [ih]
theorem keep_nms (l : List UInt8) : keep [] (nms l) = kpt l := keep_filter _ _

theorem cutg_word (m : List UInt8) : ∀ cur rest : List UInt8, 47 ∉ m → cutg cur (m ++ rest) = cutg (cur ++ m) rest := by
  induction m with
  | nil => intro cur rest _; simp
  | cons c m ih =>
    intro cur rest h
    have hc : ¬ c = 47 := fun e => h (by simp [e])
    rw [List.cons_append, cutg, if_neg hc, ih _ _ (fun hd => h (by simp [hd]))]
    simp
theorem cut_one (x : List UInt8) (h : 47 ∉ x) : cut x = [x] := by
  have := cutg_word x [] [] h
  rw [List.append_nil, List.nil_append] at this
  exact this
theorem cut_more (x r : List UInt8) (h : 47 ∉ x) : cut (x ++ 47 :: r) = x :: cut r := by
  unfold cut
  rw [cutg_word x [] _ h, List.nil_append, cutg, if_pos rfl]
theorem cutg_append (a : List UInt8) : ∀ cur b : List UInt8, cutg cur (a ++ 47 :: b) = cutg cur a ++ cut b := by
  induction a with
  | nil => intro cur b; simp [cutg, cut]
  | cons c m ih =>
    intro cur b
    by_cases hc : c = 47
    · simp [cutg, hc, ih]
    · simp [cutg, hc, ih]
theorem cut_append (a b : List UInt8) : cut (a ++ 47 :: b) = cut a ++ cut b := cutg_append a [] b
theorem cutg_no (l : List UInt8) : ∀ cur : List UInt8, 47 ∉ cur → ∀ x ∈ cutg cur l, 47 ∉ x := by
  induction l with
  | nil => intro cur h x hx; simp [cutg] at hx; exact hx ▸ h
  | cons c r ih =>
    intro cur h x hx
    by_cases hc : c = 47
    · simp only [cutg, hc, if_true] at hx
      rcases List.mem_cons.1 hx with rfl | hx
      · exact h
      · exact ih [] (by simp) x hx
    · simp only [cutg, hc, if_false] at hx
      exact ih (cur ++ [c]) (by simp [h, Ne.symm hc]) x hx
theorem cut_no (l : List UInt8) : ∀ x ∈ cut l, 47 ∉ x := cutg_no l [] (by simp)

def good (x : List UInt8) : Prop := x ≠ [] ∧ 47 ∉ x ∧ x ≠ [46] ∧ x ≠ [46, 46]
theorem mem_dropLast {α : Type} {l : List α} {x : α} (h : x ∈ l.dropLast) : x ∈ l := List.dropLast_subset l h
theorem keep_good (L : List (List UInt8)) : ∀ st, (∀ x ∈ L, 47 ∉ x) → (∀ x ∈ st, good x) → ∀ x ∈ keep st L, good x := by
  induction L with
  | nil => intro st _ h; exact h
  | cons y r ih =>
    intro st hL hst
    refine ih _ (fun x hx => hL x (by simp [hx])) ?_
    intro x hx
    unfold kstep at hx
    split at hx
    · exact hst x hx
    · split at hx
      · exact hst x (mem_dropLast hx)
      · rename_i h1 h2
        rcases List.mem_append.1 hx with hx | hx
        · exact hst x hx
        · obtain rfl : x = y := by simpa using hx
          exact ⟨fun e => h1 (.inl e), hL x (by simp), fun e => h1 (.inr e), h2⟩
theorem kpt_good (l : List UInt8) : ∀ x ∈ kpt l, good x := keep_good _ _ (cut_no l) (by simp)
theorem keep_goods (K : List (List UInt8)) : ∀ st, (∀ x ∈ K, good x) → keep st K = st ++ K := by
  induction K with
  | nil => intro st _; simp [keep]
  | cons x r ih =>
    intro st h
    have hx := h x (by simp)
    have : kstep st x = st ++ [x] := by unfold kstep; rw [if_neg (by intro e; rcases e with e | e; exact hx.1 e; exact hx.2.2.1 e), if_neg hx.2.2.2]
    rw [keep, this, ih _ (fun y hy => h y (by simp [hy]))]
    simp
theorem cut_slf (r : List (List UInt8)) : ∀ x : List UInt8, 47 ∉ x → (∀ y ∈ r, 47 ∉ y) → cut (x ++ sl false r) = x :: r := by
  induction r with
  | nil => intro x h _; simp only [sl, List.append_nil]; exact cut_one _ h
  | cons y r ih =>
    intro x h hr
    have e : x ++ sl false (y :: r) = x ++ 47 :: (y ++ sl false r) := by simp [sl]
    rw [e, cut_more _ _ h, ih y (hr y (by simp)) (fun z hz => hr z (by simp [hz]))]
theorem cut_sl (K : List (List UInt8)) (hne : K ≠ []) (h : ∀ y ∈ K, 47 ∉ y) : cut (sl true K) = K := by
  cases K with
  | nil => exact absurd rfl hne
  | cons x r =>
    have e : sl true (x :: r) = x ++ sl false r := by simp [sl]
    rw [e, cut_slf r x (h x (by simp)) (fun z hz => h z (by simp [hz]))]
theorem nms_sl (K : List (List UInt8)) (h : ∀ y ∈ K, good y) : nms (sl true K) = K := by
  by_cases hne : K = []
  · subst hne; rfl
  · unfold nms
    rw [cut_sl K hne (fun y hy => (h y hy).2.1)]
    refine List.filter_eq_self.2 fun y hy => ?_
    have := (h y hy).1
    cases y with
    | nil => exact absurd rfl this
    | cons _ _ => rfl
theorem kpt_sl (K : List (List UInt8)) (h : ∀ y ∈ K, good y) : kpt (sl true K) = K := by
  rw [← keep_nms, nms_sl K h, keep_goods K [] h]; rfl
theorem kpt_clean (l : List UInt8) : kpt (clean l) = kpt l := kpt_sl _ (kpt_good l)
theorem clean_clean (l : List UInt8) : clean (clean l) = clean l := by unfold clean; rw [kpt_sl _ (kpt_good l)]
theorem nms_clean (l : List UInt8) : nms (clean l) = kpt l := nms_sl _ (kpt_good l)

/- lengths -/
def tw : List (List UInt8) → Nat
  | [] => 0
  | x :: r => 1 + x.length + tw r
theorem tw_append (A B : List (List UInt8)) : tw (A ++ B) = tw A + tw B := by
  induction A with
  | nil => simp [tw]
  | cons x r ih => simp only [List.cons_append, tw, ih]; omega
theorem tw_dropLast (A : List (List UInt8)) : tw A.dropLast ≤ tw A := by
  rcases List.eq_nil_or_concat A with rfl | ⟨B, x, rfl⟩
  · exact Nat.le_refl _
  · rw [List.concat_eq_append, List.dropLast_concat, tw_append]; omega
theorem cutg_tw (l : List UInt8) : ∀ cur : List UInt8, tw (cutg cur l) = cur.length + l.length + 1 := by
  induction l with
  | nil => intro cur; simp [cutg, tw]; omega
  | cons c r ih =>
    intro cur
    by_cases hc : c = 47
    · have := ih []
      simp [cutg, hc, tw, this]; omega
    · have := ih (cur ++ [c])
      simp [cutg, hc, this]; omega
theorem cut_tw (l : List UInt8) : tw (cut l) = l.length + 1 := by have := cutg_tw l []; simpa [cut] using this
theorem kstep_tw (st : List (List UInt8)) (x : List UInt8) : tw (kstep st x) ≤ tw st + 1 + x.length := by
  unfold kstep
  split
  · omega
  · split
    · have := tw_dropLast st; omega
    · rw [tw_append]; simp [tw]; omega
theorem keep_tw (L : List (List UInt8)) : ∀ st, tw (keep st L) ≤ tw st + tw L := by
  induction L with
  | nil => intro st; simp [keep, tw]
  | cons x r ih =>
    intro st
    have h1 := ih (kstep st x)
    have h2 := kstep_tw st x
    simp only [keep, tw]; omega
theorem kpt_tw (l : List UInt8) : tw (kpt l) ≤ l.length + 1 := by
  have := keep_tw (cut l) []
  rw [cut_tw] at this
  simpa [tw, kpt] using this
theorem sl_tw (K : List (List UInt8)) : ∀ f, (sl f K).length ≤ tw K := by
  induction K with
  | nil => intro f; simp [sl]
  | cons x r ih =>
    intro f
    have := ih false
    simp only [sl, tw, List.length_append]
    cases f <;> simp <;> omega
theorem len_tw (K : List (List UInt8)) : K.length ≤ tw K := by
  induction K with
  | nil => exact Nat.le_refl _
  | cons x r ih => simp only [tw, List.length_cons]; omega
theorem clean_len (l : List UInt8) : (clean l).length ≤ l.length + 1 := Nat.le_trans (sl_tw _ _) (kpt_tw l)

theorem sl_append (A B : List (List UInt8)) : ∀ f, sl f (A ++ B) = sl f A ++ sl (f && A.isEmpty) B := by
  induction A with
  | nil => intro f; simp [sl]
  | cons x r ih => intro f; simp [sl, ih]
theorem sl_snoc (A : List (List UInt8)) (x : List UInt8) (h : A ≠ []) : sl true (A ++ [x]) = sl true A ++ 47 :: x := by
  rw [sl_append]
  cases A with
  | nil => exact absurd rfl h
  | cons _ _ => simp [sl]

/- places from the end: one more than the last place of c ahead of k, or 0 -/
def lpd (c : UInt8) (l : List UInt8) : Nat → Nat
  | 0 => 0
  | k + 1 => if l.getD k 0 = c then k + 1 else lpd c l k
/- the same, but a slash ends the search -/
def lps (c : UInt8) (l : List UInt8) : Nat → Nat
  | 0 => 0
  | k + 1 => if l.getD k 0 = c then k + 1 else if l.getD k 0 = 47 then 0 else lps c l k
def lp (c : UInt8) (l : List UInt8) : Nat := lpd c l l.length
def sp (l : List UInt8) : Nat := if lps 46 l l.length = 0 then l.length else lps 46 l l.length - 1
def notDir (l : List UInt8) : List UInt8 := l.drop (lp 47 l)
def dir (l : List UInt8) : List UInt8 := if lp 47 l = 0 then [46, 47] else l.take (lp 47 l)
def suffix (l : List UInt8) : List UInt8 := l.drop (sp l)
def base (l : List UInt8) : List UInt8 := l.take (sp l)

theorem lps_47 (l : List UInt8) : ∀ k, lps 47 l k = lpd 47 l k := by
  intro k
  induction k with
  | zero => rfl
  | succ k ih =>
    unfold lps lpd
    split
    · rfl
    · exact ih
theorem lpd_le (c : UInt8) (l : List UInt8) : ∀ k, lpd c l k ≤ k := by
  intro k
  induction k with
  | zero => exact Nat.le_refl _
  | succ k ih =>
    unfold lpd
    split
    · omega
    · omega
theorem lps_le (c : UInt8) (l : List UInt8) : ∀ k, lps c l k ≤ k := by
  intro k
  induction k with
  | zero => exact Nat.le_refl _
  | succ k ih =>
    unfold lps
    split
    · omega
    · split
      · omega
      · omega
theorem lp_le (c : UInt8) (l : List UInt8) : lp c l ≤ l.length := lpd_le c l _
theorem sp_le (l : List UInt8) : sp l ≤ l.length := by
  unfold sp
  split
  · omega
  · have := lps_le 46 l l.length; omega
theorem lps_two (l : List UInt8) : ∀ k, lps 46 l k = if lpd 46 (l.drop (lpd 47 l k)) (k - lpd 47 l k) = 0 then 0 else lpd 47 l k + lpd 46 (l.drop (lpd 47 l k)) (k - lpd 47 l k) := by
  intro k
  induction k with
  | zero => rfl
  | succ k ih =>
    by_cases h : l.getD k 0 = 47
    · have e1 : lpd 47 l (k + 1) = k + 1 := by rw [lpd, if_pos h]
      have e2 : lps 46 l (k + 1) = 0 := by rw [lps, if_neg (by rw [h]; decide), if_pos h]
      rw [e1, e2, Nat.sub_self]; rfl
    · have e1 : lpd 47 l (k + 1) = lpd 47 l k := by rw [lpd, if_neg h]
      have hle := lpd_le 47 l k
      rw [e1]
      have e3 : k + 1 - lpd 47 l k = (k - lpd 47 l k) + 1 := by omega
      have e4 : (l.drop (lpd 47 l k)).getD (k - lpd 47 l k) 0 = l.getD k 0 := by
        rw [List.getD_eq_getElem?_getD, List.getElem?_drop, List.getD_eq_getElem?_getD]
        congr 2
        omega
      rw [e3, lpd, lps, e4]
      by_cases h6 : l.getD k 0 = 46
      · rw [if_pos h6, if_pos h6, if_neg (by omega)]; omega
      · rw [if_neg h6, if_neg h6, if_neg h]; exact ih
/-- the suffix, by the name's own last dot -/
theorem sp_ref (l : List UInt8) : sp l = if lp 46 (notDir l) = 0 then l.length else lp 47 l + lp 46 (notDir l) - 1 := by
  have h := lps_two l l.length
  have e : (l.drop (lpd 47 l l.length)).length = l.length - lpd 47 l l.length := List.length_drop
  unfold sp lp notDir lp
  rw [e, h]
  by_cases h0 : lpd 46 (l.drop (lpd 47 l l.length)) (l.length - lpd 47 l l.length) = 0
  · rw [if_pos h0, if_pos rfl, if_pos h0]
  · rw [if_neg h0, if_neg (by omega), if_neg h0]
theorem base_suffix (l : List UInt8) : base l ++ suffix l = l := List.take_append_drop _ _
theorem dir_notDir (l : List UInt8) : (if notDir l = l then [] else dir l) ++ notDir l = l := by
  by_cases h : lp 47 l = 0
  · have e : notDir l = l := by unfold notDir; rw [h]; rfl
    rw [if_pos e, e]; rfl
  · have e : notDir l ≠ l := by
      intro e
      have := congrArg List.length e
      unfold notDir at this
      rw [List.length_drop] at this
      have := lp_le 47 l
      omega
    rw [if_neg e]
    unfold dir notDir
    rw [if_neg h]
    exact List.take_append_drop _ _
theorem lpd_take (c : UInt8) (A B : List UInt8) : ∀ k, k ≤ A.length → lpd c (A ++ B) k = lpd c A k := by
  intro k
  induction k with
  | zero => intro _; rfl
  | succ k ih =>
    intro h
    have e : (A ++ B).getD k 0 = A.getD k 0 := by rw [List.getD_eq_getElem?_getD, List.getElem?_append_left (by omega), List.getD_eq_getElem?_getD]
    unfold lpd
    rw [e, ih (by omega)]
theorem lpd_none (c : UInt8) (A x : List UInt8) (h : c ∉ x) : ∀ k, k ≤ x.length → lpd c (A ++ x) (A.length + k) = lpd c A A.length := by
  intro k
  induction k with
  | zero => intro _; exact lpd_take c A x _ (Nat.le_refl _)
  | succ k ih =>
    intro hk
    have e : (A ++ x).getD (A.length + k) 0 = x.getD k 0 := by rw [List.getD_eq_getElem?_getD, List.getElem?_append_right (by omega), List.getD_eq_getElem?_getD]; congr 2; omega
    have hn : ¬ x.getD k 0 = c := by
      rw [List.getD_eq_getElem?_getD, List.getElem?_eq_getElem (by omega)]
      intro e1
      exact h (e1 ▸ List.getElem_mem (by omega : k < x.length))
    rw [show A.length + (k + 1) = (A.length + k) + 1 by omega, lpd, e, if_neg hn]
    exact ih (by omega)
theorem lp_behind (A x : List UInt8) (h : 47 ∉ x) : lp 47 (A ++ 47 :: x) = A.length + 1 := by
  have e : A ++ 47 :: x = (A ++ [47]) ++ x := by simp
  have := lpd_none 47 (A ++ [47]) x h x.length (Nat.le_refl _)
  unfold lp
  rw [e, List.length_append, this]
  have e2 : (A ++ [47]).length = A.length + 1 := by simp
  rw [e2, lpd, if_pos (by simp)]
theorem lp_no (x : List UInt8) (h : 47 ∉ x) : lp 47 x = 0 := by
  have := lpd_none 47 [] x h x.length (Nat.le_refl _)
  simpa [lp, lpd] using this
theorem notDir_sl (K : List (List UInt8)) (h : ∀ y ∈ K, 47 ∉ y) : notDir (sl true K) = K.getLastD [] := by
  rcases List.eq_nil_or_concat K with rfl | ⟨B, x, rfl⟩
  · rfl
  · rw [List.concat_eq_append] at h ⊢
    have hx := h x (by simp)
    have e : (B ++ [x]).getLastD [] = x := by simp [List.getLastD_eq_getLast?]
    rw [e]
    by_cases hB : B = []
    · subst hB
      have e2 : sl true ([] ++ [x]) = x := by simp [sl]
      rw [e2]; unfold notDir; rw [lp_no x hx]; rfl
    · rw [sl_snoc B x hB]
      unfold notDir
      rw [lp_behind _ _ hx]
      simp [List.drop_append]
theorem last_clean (l : List UInt8) : notDir (clean l) = (kpt l).getLastD [] := notDir_sl _ fun y hy => (kpt_good l y hy).2.1
/-- a clean path is its parent and its last name -/
theorem clean_two (l : List UInt8) : clean (sl true (kpt l).dropLast ++ 47 :: (kpt l).getLastD []) = clean l := by
  have hg := kpt_good l
  unfold clean
  generalize kpt l = K at hg
  congr 1
  unfold kpt
  rw [cut_append, keep_append]
  rcases List.eq_nil_or_concat K with rfl | ⟨B, x, rfl⟩
  · rfl
  · rw [List.concat_eq_append] at hg ⊢
    have hB : ∀ y ∈ B, good y := fun y hy => hg y (by simp [hy])
    have hx := hg x (by simp)
    have e : (B ++ [x]).getLastD [] = x := by simp [List.getLastD_eq_getLast?]
    have e1 : keep [] (cut (sl true B)) = B := kpt_sl B hB
    rw [e, List.dropLast_concat, e1, cut_one x hx.2.1, keep_goods [x] B (by simpa using hx)]

/-- is it a clean path within the limits? -/
def okn (x : List UInt8) : Bool := decide (x.length ≤ 255) && !x.contains 0 && !x.contains 10
def valid (l : List UInt8) : Bool := decide (l.length ≤ 1000) && decide (clean l = l) && (cut l).all okn
theorem all_filter (L : List (List UInt8)) : (L.filter (fun x => !x.isEmpty)).all okn = L.all okn := by
  induction L with
  | nil => rfl
  | cons x r ih =>
    cases x with
    | nil => simp only [List.filter, List.isEmpty_nil, Bool.not_true, List.all_cons, ih]; rfl
    | cons c m => simp only [List.filter, List.isEmpty_cons, Bool.not_false, List.all_cons, ih]
theorem valid_nms (l : List UInt8) : valid l = (decide (l.length ≤ 1000) && decide (clean l = l) && (nms l).all okn) := by unfold valid nms; rw [all_filter]
end Go.Proofs.YtabmnkddmdffkaaGreatDoor
