/- Of no program: trees that are right; how a path is looked for by way of its parent; what is put, taken away, found in such trees. Of no program: the keys of a rising list, sorted, are that list. -/
import Derived.Test.YtbfchadcpokjoaaGreatDoorATree
namespace Go.Proofs.YtbfchadcpokjoaaGreatDoor
open Go

/-- the path of the directory that a path lies in -/
def par (p : Bs) : Bs := sl true (kpt p).dropLast

theorem ends_join (a x : Bs) (hx : 47 ∉ x) : ends (a ++ 47 :: x) = ends a ++ [a.length + 1 + x.length] := by
  have hl : (a ++ 47 :: x).length = a.length + (x.length + 1) := by simp
  unfold ends
  rw [hl, List.range_add, List.map_append, List.filter_append, List.map_map, List.range_succ, List.map_append, List.filter_append]
  have e1 : ((List.range a.length).map (· + 1)).filter (fun i => i == a.length + (x.length + 1) || (a ++ 47 :: x).getD i 0 == 47) = ((List.range a.length).map (· + 1)).filter (fun i => i == a.length || a.getD i 0 == 47) := by
    refine List.filter_congr fun i hi => ?_
    obtain ⟨j, hj, rfl⟩ := List.mem_map.1 hi
    have hj' := List.mem_range.1 hj
    by_cases h : j + 1 = a.length
    · rw [h]; simp
    · have h1 : j + 1 < a.length := by omega
      have h2 : ¬ j + 1 = a.length + (x.length + 1) := by omega
      have h3 : (a ++ 47 :: x).getD (j + 1) 0 = a.getD (j + 1) 0 := by simp only [List.getD_eq_getElem?_getD]; rw [List.getElem?_append_left h1]
      rw [h3, beq_eq_false_iff_ne.2 h, beq_eq_false_iff_ne.2 h2]
  have e2 : ((List.range x.length).map ((· + 1) ∘ (fun k => a.length + k))).filter (fun i => i == a.length + (x.length + 1) || (a ++ 47 :: x).getD i 0 == 47) = [] := by
    refine List.filter_eq_nil_iff.2 fun i hi => ?_
    obtain ⟨j, hj, rfl⟩ := List.mem_map.1 hi
    have hj' := List.mem_range.1 hj
    simp only [Function.comp]
    have h2 : ¬ a.length + j + 1 = a.length + (x.length + 1) := by omega
    have h3 : (a ++ 47 :: x).getD (a.length + j + 1) 0 = x[j] := by
      simp only [List.getD_eq_getElem?_getD]
      rw [List.getElem?_append_right (by omega)]
      have : a.length + j + 1 - a.length = j + 1 := by omega
      rw [this, List.getElem?_cons_succ, List.getElem?_eq_getElem hj']
      rfl
    rw [h3]
    have h4 : x[j] ≠ 47 := fun e => hx (e ▸ List.getElem_mem hj')
    simp [h2, h4]
  rw [e1, e2]
  have e3 : a.length + x.length + 1 = a.length + 1 + x.length := by omega
  have e4 : a.length + (x.length + 1) = a.length + 1 + x.length := by omega
  simp [e3, e4]
theorem ends_word (x : Bs) (hx : 47 ∉ x) (hne : x ≠ []) : ends x = [x.length] := by
  obtain ⟨n, hn⟩ : ∃ n, x.length = n + 1 := ⟨x.length - 1, by have := List.length_pos_iff.2 hne; omega⟩
  unfold ends
  rw [hn, List.range_succ, List.map_append, List.filter_append]
  have e2 : ((List.range n).map (· + 1)).filter (fun i => i == n + 1 || x.getD i 0 == 47) = [] := by
    refine List.filter_eq_nil_iff.2 fun i hi => ?_
    obtain ⟨j, hj, rfl⟩ := List.mem_map.1 hi
    have hj' := List.mem_range.1 hj
    have h2 : ¬ j = n := by omega
    have h3 : x.getD (j + 1) 0 = x[j + 1] := by simp only [List.getD_eq_getElem?_getD]; rw [List.getElem?_eq_getElem (by omega)]; rfl
    have h4 : x[j + 1] ≠ 47 := fun e => hx (e ▸ List.getElem_mem _)
    rw [h3]
    simp [h2, h4]
  rw [e2]
  simp
/-- a clean path is its parent and a name -/
theorem par_cases (p : Bs) (hc : clean p = p) (hp : p ≠ []) : ∃ x : Bs, good x ∧ ((par p = [] ∧ p = x) ∨ (par p ≠ [] ∧ p = par p ++ 47 :: x)) ∧ clean (par p) = par p ∧ kpt (par p) = (kpt p).dropLast ∧ kpt p = kpt (par p) ++ [x] := by
  have hg := kpt_good p
  have hk : kpt p ≠ [] := by
    intro e
    apply hp
    rw [← hc]
    unfold clean
    rw [e]; rfl
  obtain ⟨K, x, hK⟩ : ∃ K x, kpt p = K ++ [x] := ⟨(kpt p).dropLast, (kpt p).getLast hk, (List.dropLast_concat_getLast hk).symm⟩
  have hgK : ∀ y ∈ K, good y := fun y hy => hg y (by rw [hK]; simp [hy])
  have hgx : good x := hg x (by rw [hK]; simp)
  have e1 : par p = sl true K := by unfold par; rw [hK, List.dropLast_concat]
  have e2 : kpt (par p) = K := by rw [e1, kpt_sl K hgK]
  have e3 : (kpt p).dropLast = K := by rw [hK, List.dropLast_concat]
  have ep : p = sl true (K ++ [x]) := by
    have h := hc
    unfold clean at h
    rw [hK] at h
    exact h.symm
  refine ⟨x, hgx, ?_, ?_, by rw [e2, e3], by rw [e2, hK]⟩
  · by_cases hK0 : K = []
    · subst hK0
      refine .inl ⟨e1, ?_⟩
      rw [ep]
      simp [sl]
    · refine .inr ⟨?_, ?_⟩
      · rw [e1]
        intro h
        have := kpt_sl K hgK
        rw [h] at this
        exact hK0 (this.symm.trans rfl)
      · rw [e1, ← sl_snoc K x hK0]; exact ep
  · unfold clean
    rw [e2, e1]
theorem par_len {p : Bs} (hc : clean p = p) (hp : p ≠ []) : (par p).length < p.length := by
  obtain ⟨x, hx, h, _⟩ := par_cases p hc hp
  rcases h with ⟨h1, h2⟩ | ⟨h1, h2⟩
  · rw [h1]; exact List.length_pos_iff.2 hp
  · have := congrArg List.length h2
    simp at this
    omega
theorem par_before {p : Bs} (hc : clean p = p) (hp : p ≠ []) : bytesBefore (par p) p = true := by
  have key : ∀ a b : Bs, b ≠ [] → bytesBefore a (a ++ b) = true := by
    intro a
    induction a with
    | nil => intro b hb; cases b with
      | nil => exact absurd rfl hb
      | cons _ _ => rfl
    | cons x r ih => intro b hb; simp [bytesBefore, ih b hb]
  obtain ⟨x, hx, h, _⟩ := par_cases p hc hp
  rcases h with ⟨h1, h2⟩ | ⟨h1, h2⟩
  · rw [h1]; have := key [] p hp; simpa using this
  · have := key (par p) (47 :: x) (by simp)
    rwa [← h2] at this
section
variable {α : Type}
theorem lookE_take (isd : α → Bool) (T : List (Bs × α)) (p q : Bs) (l : List Nat) (h : ∀ i ∈ l, p.take i = q.take i) : lookE isd T p l = lookE isd T q l := by
  unfold lookE
  have key : ∀ (l : List Nat) (st : Lk α), (∀ i ∈ l, p.take i = q.take i) → l.foldl (stp isd T p) st = l.foldl (stp isd T q) st := by
    intro l
    induction l with
    | nil => intro st _; rfl
    | cons i r ih =>
      intro st h
      have e : stp isd T p st i = stp isd T q st i := by
        cases st <;> simp only [stp, h i List.mem_cons_self]
      rw [List.foldl_cons, List.foldl_cons, e]
      exact ih _ fun j hj => h j (List.mem_cons_of_mem _ hj)
  exact key l .rt h
theorem ends_le {p : Bs} {i : Nat} (h : i ∈ ends p) : i ≤ p.length := by
  unfold ends at h
  obtain ⟨j, hj, rfl⟩ := List.mem_map.1 (List.mem_filter.1 h).1
  have := List.mem_range.1 hj
  omega
/-- a path is looked for by way of its parent -/
theorem look_up (isd : α → Bool) (T : List (Bs × α)) (p : Bs) (hc : clean p = p) (hp : p ≠ []) : lookP isd T p = stp isd T p (lookP isd T (par p)) p.length := by
  obtain ⟨x, hx, h, _⟩ := par_cases p hc hp
  unfold lookP
  rcases h with ⟨h1, h2⟩ | ⟨h1, h2⟩
  · have e : ends p = [] ++ [p.length] := by rw [h2]; exact ends_word x hx.2.1 hx.1
    rw [e, lookE_snoc, h1]
    rfl
  · have hl : p.length = (par p).length + 1 + x.length := by have := congrArg List.length h2; simp at this; omega
    have e : ends p = ends (par p) ++ [p.length] := by
      conv => lhs; rw [h2]
      rw [ends_join _ _ hx.2.1, hl]
    rw [e, lookE_snoc]
    congr 1
    refine lookE_take isd T p (par p) _ fun i hi => ?_
    have hi' := ends_le hi
    conv => lhs; rw [h2]
    rw [List.take_append_of_le_length hi']
theorem take_len (p : Bs) : p.take p.length = p := List.take_length
end

/-- a tree that is right, at a clock -/
structure Gd (T : List (Bs × Nd)) (clk : Int) : Prop where
  srt : Srt T
  val : ∀ e ∈ T, valid e.1 = true ∧ e.1 ≠ []
  tim : ∀ e ∈ T, 0 ≤ e.2.time ∧ e.2.time ≤ clk
  dat : ∀ e ∈ T, (e.2.dir = true → e.2.data = []) ∧ e.2.data.length ≤ 65536
  up : ∀ e ∈ T, par e.1 = [] ∨ ∃ n, fnd T (par e.1) = some n ∧ n.dir = true
theorem valid_clean {p : Bs} (h : valid p = true) : clean p = p := by
  unfold valid at h
  simp only [Bool.and_eq_true, decide_eq_true_eq] at h
  exact h.1.2
def isd (n : Nd) : Bool := n.dir
theorem Gd.nil (clk : Int) : Gd [] clk := ⟨List.Pairwise.nil, fun e he => (by cases he), fun e he => (by cases he), fun e he => (by cases he), fun e he => (by cases he)⟩
/-- what lies in a tree that is right is found -/
theorem Gd.look {T : List (Bs × Nd)} {clk : Int} (h : Gd T clk) : ∀ (k : Nat) (p : Bs), p.length ≤ k → ∀ n, fnd T p = some n → lookP isd T p = .is n
  | 0, p, hk, n, hf => by
    have hm := fnd_mem hf
    have hq : p ≠ [] := (h.val _ hm).2
    exact absurd (List.length_eq_zero_iff.1 (by omega)) hq
  | k + 1, p, hk, n, hf => by
    have hm := fnd_mem hf
    have hv : valid p = true := (h.val _ hm).1
    have hp : p ≠ [] := (h.val _ hm).2
    have hc := valid_clean hv
    rw [look_up isd T p hc hp]
    have hlt := par_len hc hp
    rcases h.up _ hm with hr | ⟨m, hf2, hd⟩
    · simp only at hr
      rw [hr]
      show stp isd T p .rt p.length = _
      simp only [stp, take_len, hf, lkOf]
    · simp only at hf2
      rw [Gd.look h k (par p) (by omega) m hf2]
      simp only [stp, isd, hd, if_true, take_len, hf, lkOf]
/-- where a path could lie: its parent is the root, or a directory -/
def Pl1 (T : List (Bs × Nd)) (p : Bs) : Prop := par p = [] ∨ ∃ n, fnd T (par p) = some n ∧ n.dir = true
theorem look_par {T : List (Bs × Nd)} : ∀ (k : Nat) (p : Bs), p.length ≤ k → clean p = p → ∀ x, lookP isd T p = x → (x = .rt → p = []) ∧ (∀ n, x = .is n → fnd T p = some n ∧ p ≠ [] ∧ Pl1 T p) ∧ (x = .non → fnd T p = none ∧ p ≠ [] ∧ Pl1 T p)
  | k, p, hk, hc, x, hx => by
    by_cases hp : p = []
    · subst hp
      have : x = .rt := hx.symm
      subst this
      exact ⟨fun _ => rfl, fun n hn => (by cases hn), fun hn => by cases hn⟩
    · have hlt := par_len hc hp
      cases k with
      | zero => omega
      | succ k =>
        obtain ⟨_, _, _, hcp, _⟩ := par_cases p hc hp
        obtain ⟨i1, i2, i3⟩ := look_par k (par p) (by omega) hcp _ rfl
        rw [look_up isd T p hc hp] at hx
        have fin : Pl1 T p → lkOf (fnd T p) = x → (x = .rt → p = []) ∧ (∀ n, x = .is n → fnd T p = some n ∧ p ≠ [] ∧ Pl1 T p) ∧ (x = .non → fnd T p = none ∧ p ≠ [] ∧ Pl1 T p) := by
          intro hpl he
          cases hf : fnd T p with
          | none => rw [hf] at he; subst he; exact ⟨fun e => (by cases e), fun n hn => (by cases hn), fun _ => ⟨rfl, hp, hpl⟩⟩
          | some y => rw [hf] at he; subst he; exact ⟨fun e => (by cases e), fun n hn => (by cases hn; exact ⟨rfl, hp, hpl⟩), fun e => by cases e⟩
        cases hl : lookP isd T (par p) with
        | bad e => rw [hl] at hx; simp only [stp] at hx; subst hx; exact ⟨fun e => (by cases e), fun n hn => (by cases hn), fun e => by cases e⟩
        | non => rw [hl] at hx; simp only [stp] at hx; subst hx; exact ⟨fun e => (by cases e), fun n hn => (by cases hn), fun e => by cases e⟩
        | rt =>
          rw [hl] at hx i1
          simp only [stp, take_len] at hx
          exact fin (.inl (i1 rfl)) hx
        | is y =>
          rw [hl] at hx i2
          obtain ⟨j1, j2, j3⟩ := i2 y rfl
          simp only [stp, take_len] at hx
          cases hd : isd y with
          | true => rw [hd, if_pos rfl] at hx; exact fin (.inr ⟨y, j1, hd⟩) hx
          | false => rw [hd] at hx; simp only [Bool.false_eq_true, if_false] at hx; subst hx; exact ⟨fun e => (by cases e), fun n hn => (by cases hn), fun e => by cases e⟩
theorem look_is' {T : List (Bs × Nd)} {p : Bs} {n : Nd} (hc : clean p = p) (h : lookP isd T p = .is n) : fnd T p = some n ∧ p ≠ [] ∧ Pl1 T p := (look_par p.length p (Nat.le_refl _) hc _ h).2.1 n rfl
theorem look_non' {T : List (Bs × Nd)} {p : Bs} (hc : clean p = p) (h : lookP isd T p = .non) : fnd T p = none ∧ p ≠ [] ∧ Pl1 T p := (look_par p.length p (Nat.le_refl _) hc _ h).2.2 rfl

/-- a node is laid in a tree that is right -/
theorem Gd.put {T : List (Bs × Nd)} {clk clk' : Int} (h : Gd T clk) {p : Bs} {n : Nd} (hv : valid p = true) (hp : p ≠ []) (hpl : Pl1 T p) (hk : clk ≤ clk') (ht : 0 ≤ n.time ∧ n.time ≤ clk') (hd : (n.dir = true → n.data = []) ∧ n.data.length ≤ 65536)
    (ho : ∀ m, fnd T p = some m → m.dir = true → n.dir = true) : Gd (YtbfchadcpokjoaaGreatDoor.put T p n) clk' := by
  have hne : par p ≠ p := fun e => by have := par_len (valid_clean hv) hp; rw [e] at this; omega
  have keep : ∀ q m, fnd T q = some m → m.dir = true → ∃ m', fnd (YtbfchadcpokjoaaGreatDoor.put T p n) q = some m' ∧ m'.dir = true := by
    intro q m hf hm
    by_cases e : p = q
    · subst e; exact ⟨n, fnd_put_same _ _ _, ho m hf hm⟩
    · exact ⟨m, (fnd_put_other _ _ e).trans hf, hm⟩
  refine ⟨h.srt.put p n, fun e he => ?_, fun e he => ?_, fun e he => ?_, fun e he => ?_⟩
  · rcases mem_put.1 he with rfl | ⟨h1, _⟩
    · exact ⟨hv, hp⟩
    · exact h.val e h1
  · rcases mem_put.1 he with rfl | ⟨h1, _⟩
    · exact ht
    · have := h.tim e h1; omega
  · rcases mem_put.1 he with rfl | ⟨h1, _⟩
    · exact hd
    · exact h.dat e h1
  · rcases mem_put.1 he with rfl | ⟨h1, _⟩
    · rcases hpl with h2 | ⟨m, h2, h3⟩
      · exact .inl h2
      · exact .inr (keep _ m h2 h3)
    · rcases h.up e h1 with h2 | ⟨m, h2, h3⟩
      · exact .inl h2
      · exact .inr (keep _ m h2 h3)
/-- a node goes -/
theorem Gd.del {T : List (Bs × Nd)} {clk clk' : Int} (h : Gd T clk) {p : Bs} (hk : clk ≤ clk') (hn : ∀ e ∈ T, par e.1 ≠ [] → par e.1 ≠ p) : Gd (YtbfchadcpokjoaaGreatDoor.del T p) clk' := by
  refine ⟨h.srt.del p, fun e he => h.val e (mem_del.1 he).1, fun e he => ?_, fun e he => h.dat e (mem_del.1 he).1, fun e he => ?_⟩
  · have := h.tim e (mem_del.1 he).1; omega
  · have he1 := (mem_del.1 he).1
    by_cases hr : par e.1 = []
    · exact .inl hr
    · rcases h.up e he1 with h2 | ⟨m, h2, h3⟩
      · exact .inl h2
      · exact .inr ⟨m, (fnd_del_other T (fun e2 => hn e he1 hr e2.symm)).trans h2, h3⟩
/-- nothing lies in a file -/
theorem Gd.no_kid {T : List (Bs × Nd)} {clk : Int} (h : Gd T clk) {p : Bs} {n : Nd} (hf : fnd T p = some n) (hd : n.dir = false) : ∀ e ∈ T, par e.1 ≠ [] → par e.1 ≠ p := by
  intro e he hr e2
  rcases h.up e he with h2 | ⟨m, h2, h3⟩
  · exact hr h2
  · rw [e2, hf] at h2
    cases h2
    rw [hd] at h3; cases h3
/-- a tree's beginning is right too -/
theorem srt_take {α : Type} {T : List (Bs × α)} (h : Srt T) {k : Nat} {e x : Bs × α} (he : e ∈ T.take k) (hx : x ∈ T) (hb : bytesBefore x.1 e.1 = true) : x ∈ T.take k := by
  have hT : T.take k ++ T.drop k = T := List.take_append_drop k T
  rw [← hT] at hx h
  rcases List.mem_append.1 hx with h1 | h1
  · exact h1
  · have := (List.pairwise_append.1 h).2.2 e he x h1
    rw [before_asymm this] at hb
    cases hb
theorem Gd.take {T : List (Bs × Nd)} {clk : Int} (h : Gd T clk) (k : Nat) : Gd (T.take k) clk := by
  have hs : ∀ e ∈ T.take k, e ∈ T := fun e he => List.mem_of_mem_take he
  have hst : Srt (T.take k) := List.Pairwise.sublist (List.take_sublist k T) h.srt
  refine ⟨hst, fun e he => h.val e (hs e he), fun e he => h.tim e (hs e he), fun e he => h.dat e (hs e he), fun e he => ?_⟩
  rcases h.up e (hs e he) with h2 | ⟨m, h2, h3⟩
  · exact .inl h2
  · have hv := h.val e (hs e he)
    have hb := par_before (valid_clean hv.1) hv.2
    exact .inr ⟨m, hst.fnd (srt_take h.srt he (fnd_mem h2) hb), h3⟩
theorem ins_last {α : Type} (x : Bs × α) (T : List (Bs × α)) (h : ∀ e ∈ T, bytesBefore e.1 x.1 = true) : ins x T = T ++ [x] := by
  induction T with
  | nil => rfl
  | cons y r ih =>
    unfold ins
    rw [if_neg (by rw [before_asymm (h y List.mem_cons_self)]; simp), ih fun e he => h e (List.mem_cons_of_mem _ he)]
    rfl
theorem put_last {α : Type} (T : List (Bs × α)) (p : Bs) (n : α) (h : ∀ e ∈ T, bytesBefore e.1 p = true) : put T p n = T ++ [(p, n)] := by
  unfold put
  rw [del_none (fnd_none_of fun e he => before_ne (h e he)), ins_last _ _ h]
end Go.Proofs.YtbfchadcpokjoaaGreatDoor
namespace Go.Proofs.YtbfchadcpokjoaaGreatDoor
open Go
theorem before_lt : ∀ a b : Bs, bytesBefore a b = true ↔ a < b
  | [], [] => by simp [bytesBefore]
  | [], _ :: _ => by simp [bytesBefore]
  | _ :: _, [] => by simp [bytesBefore]
  | x :: r, y :: s => by
    rw [List.cons_lt_cons_iff]
    simp only [bytesBefore, Bool.or_eq_true, Bool.and_eq_true, decide_eq_true_eq, beq_iff_eq]
    rw [before_lt r s]
theorem le_before {a b : Bs} (h : a ≤ b) : a = b ∨ bytesBefore a b = true := by
  rcases before_total a b with h1 | h1 | h1
  · exact .inr h1
  · exact .inl h1
  · exact absurd ((before_lt b a).1 h1) (List.not_lt.2 h)
theorem before_le {a b : Bs} (h : bytesBefore a b = true) : a ≤ b := by
  refine List.not_lt.1 fun h1 => ?_
  have := (before_lt b a).2 h1
  rw [before_asymm h] at this
  cases this
/-- two rising lists of the same members are one -/
theorem rising_ext : ∀ l m : List Bs, l.Pairwise (fun a b => bytesBefore a b = true) → m.Pairwise (fun a b => bytesBefore a b = true) → (∀ x, x ∈ l ↔ x ∈ m) → l = m
  | [], [], _, _, _ => rfl
  | [], y :: s, _, _, h => absurd ((h y).2 List.mem_cons_self) (by simp)
  | x :: r, [], _, _, h => absurd ((h x).1 List.mem_cons_self) (by simp)
  | x :: r, y :: s, hl, hm, h => by
    obtain ⟨l1, l2⟩ := List.pairwise_cons.1 hl
    obtain ⟨m1, m2⟩ := List.pairwise_cons.1 hm
    have e : x = y := by
      rcases List.mem_cons.1 ((h x).1 List.mem_cons_self) with e | e
      · exact e
      · rcases List.mem_cons.1 ((h y).2 List.mem_cons_self) with e2 | e2
        · exact e2.symm
        · have h1 := m1 x e
          have h2 := l1 y e2
          rw [before_asymm h1] at h2
          cases h2
    subst e
    rw [rising_ext r s l2 m2 fun z => ?_]
    constructor
    · intro hz
      rcases List.mem_cons.1 ((h z).1 (List.mem_cons_of_mem _ hz)) with e | e
      · exact absurd e.symm (before_ne (l1 z hz))
      · exact e
    · intro hz
      rcases List.mem_cons.1 ((h z).2 (List.mem_cons_of_mem _ hz)) with e | e
      · exact absurd e.symm (before_ne (m1 z hz))
      · exact e
theorem sorted_keys {K ss : List Bs} (hK : K.Pairwise (fun a b => bytesBefore a b = true)) (hp : ss.Perm K) : ss.mergeSort (fun x y => decide (x ≤ y)) = K := by
  have hs : (ss.mergeSort (fun x y => decide (x ≤ y))).Perm K := (List.mergeSort_perm ss _).trans hp
  have hle : (ss.mergeSort (fun x y => decide (x ≤ y))).Pairwise (fun a b => decide (a ≤ b) = true) :=
    List.pairwise_mergeSort (fun a b c h1 h2 => by simp only [decide_eq_true_eq] at *; exact List.le_trans h1 h2) (fun a b => by simp only [Bool.or_eq_true, decide_eq_true_eq]; exact List.le_total a b) ss
  have hnd : (ss.mergeSort (fun x y => decide (x ≤ y))).Nodup := hs.nodup_iff.2 (hK.imp fun h => before_ne h)
  refine rising_ext _ _ ?_ hK fun x => hs.mem_iff
  have := List.Pairwise.and hle hnd
  exact this.imp fun h => (le_before (of_decide_eq_true h.1)).resolve_left h.2
end Go.Proofs.YtbfchadcpokjoaaGreatDoor
