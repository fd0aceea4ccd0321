/- Plain trees of files, of no program: a list of paths with what lies there, rising; what is found, put, taken away; how a path is looked for. -/
import GoSem.ClaimMapViews
import Derived.Maps.OwnSet
import Derived.Test.YtabmnkddmdffkaaGreatDoorAPlain
namespace Go.Proofs.YtabmnkddmdffkaaGreatDoor
open Go

abbrev Bs := List UInt8

theorem before_irrefl : ∀ a : Bs, bytesBefore a a = false
  | [] => rfl
  | x :: r => by simp [bytesBefore, before_irrefl r]
theorem before_trans : ∀ a b c : Bs, bytesBefore a b = true → bytesBefore b c = true → bytesBefore a c = true
  | [], [], _, h, _ => by simp [bytesBefore] at h
  | [], _ :: _, [], _, h => by simp [bytesBefore] at h
  | [], _ :: _, _ :: _, _, _ => rfl
  | _ :: _, [], _, h, _ => by simp [bytesBefore] at h
  | _ :: _, _ :: _, [], _, h => by simp [bytesBefore] at h
  | x :: r, y :: s, z :: t, h, k => by
    simp only [bytesBefore, Bool.or_eq_true, Bool.and_eq_true, decide_eq_true_eq, beq_iff_eq] at h k ⊢
    rcases h with h | ⟨rfl, h⟩
    · rcases k with k | ⟨rfl, k⟩
      · exact .inl (UInt8.lt_trans h k)
      · exact .inl h
    · rcases k with k | ⟨rfl, k⟩
      · exact .inl k
      · exact .inr ⟨rfl, before_trans r s t h k⟩
theorem before_total : ∀ a b : Bs, bytesBefore a b = true ∨ a = b ∨ bytesBefore b a = true
  | [], [] => .inr (.inl rfl)
  | [], _ :: _ => .inl rfl
  | _ :: _, [] => .inr (.inr rfl)
  | x :: r, y :: s => by
    simp only [bytesBefore, Bool.or_eq_true, Bool.and_eq_true, decide_eq_true_eq, beq_iff_eq, List.cons.injEq]
    by_cases e : x = y
    · subst e
      rcases before_total r s with h | h | h
      · exact .inl (.inr ⟨rfl, h⟩)
      · exact .inr (.inl ⟨rfl, h⟩)
      · exact .inr (.inr (.inr ⟨rfl, h⟩))
    · rcases Nat.lt_or_ge x.toNat y.toNat with h | h
      · exact .inl (.inl (UInt8.lt_iff_toNat_lt.2 h))
      · exact .inr (.inr (.inl (UInt8.lt_iff_toNat_lt.2 (Nat.lt_of_le_of_ne h (fun q => e (UInt8.toNat_inj.1 q.symm))))))
theorem before_ne {a b : Bs} (h : bytesBefore a b = true) : a ≠ b := fun e => by rw [e, before_irrefl] at h; cases h
theorem before_asymm {a b : Bs} (h : bytesBefore a b = true) : bytesBefore b a = false := by
  cases k : bytesBefore b a with
  | false => rfl
  | true => have := before_trans a b a h k; rw [before_irrefl] at this; cases this

section
variable {α β : Type}

/-- what lies at a path -/
def fnd (L : List (Bs × α)) (p : Bs) : Option α := (L.find? (fun e => e.1 == p)).map (·.2)
/-- without a path -/
def del (L : List (Bs × α)) (p : Bs) : List (Bs × α) := L.filter (fun e => !(e.1 == p))
def ins (x : Bs × α) : List (Bs × α) → List (Bs × α)
  | [] => [x]
  | y :: r => if bytesBefore x.1 y.1 then x :: y :: r else y :: ins x r
/-- with x at p, in place of what is there -/
def put (L : List (Bs × α)) (p : Bs) (x : α) : List (Bs × α) := ins (p, x) (del L p)
/-- rising -/
def Srt (L : List (Bs × α)) : Prop := L.Pairwise (fun a b => bytesBefore a.1 b.1 = true)

theorem fnd_nil (p : Bs) : fnd ([] : List (Bs × α)) p = none := rfl
theorem fnd_cons (x : Bs × α) (L : List (Bs × α)) (p : Bs) : fnd (x :: L) p = if x.1 = p then some x.2 else fnd L p := by
  unfold fnd
  by_cases h : x.1 = p
  · simp [h]
  · have : (x.1 == p) = false := beq_eq_false_iff_ne.2 h
    simp [this, h]
theorem fnd_mem {L : List (Bs × α)} {p : Bs} {x : α} (h : fnd L p = some x) : (p, x) ∈ L := by
  induction L with
  | nil => cases h
  | cons y r ih =>
    rw [fnd_cons] at h
    by_cases e : y.1 = p
    · rw [if_pos e] at h
      cases h
      rw [← e]
      exact List.mem_cons_self
    · rw [if_neg e] at h
      exact List.mem_cons_of_mem _ (ih h)
theorem fnd_none {L : List (Bs × α)} {p : Bs} (h : fnd L p = none) : ∀ e ∈ L, e.1 ≠ p := by
  induction L with
  | nil => intro e he; cases he
  | cons y r ih =>
    rw [fnd_cons] at h
    by_cases e : y.1 = p
    · rw [if_pos e] at h; cases h
    · rw [if_neg e] at h
      intro x hx
      rcases List.mem_cons.1 hx with rfl | hx
      · exact e
      · exact ih h x hx
theorem fnd_none_of {L : List (Bs × α)} {p : Bs} (h : ∀ e ∈ L, e.1 ≠ p) : fnd L p = none := by
  induction L with
  | nil => rfl
  | cons y r ih => rw [fnd_cons, if_neg (h y List.mem_cons_self)]; exact ih fun e he => h e (List.mem_cons_of_mem _ he)
theorem fnd_map (f : α → β) (L : List (Bs × α)) (p : Bs) : fnd (L.map fun e => (e.1, f e.2)) p = (fnd L p).map f := by
  induction L with
  | nil => rfl
  | cons y r ih =>
    rw [List.map_cons, fnd_cons, fnd_cons, ih]
    split <;> rfl
theorem del_map (f : α → β) (L : List (Bs × α)) (p : Bs) : (del L p).map (fun e => (e.1, f e.2)) = del (L.map fun e => (e.1, f e.2)) p := by
  unfold del
  rw [List.filter_map]
  rfl
theorem ins_map (f : α → β) (x : Bs × α) (L : List (Bs × α)) : (ins x L).map (fun e => (e.1, f e.2)) = ins (x.1, f x.2) (L.map fun e => (e.1, f e.2)) := by
  induction L with
  | nil => rfl
  | cons y r ih =>
    unfold ins
    rw [List.map_cons]
    split <;> simp_all
theorem put_map (f : α → β) (L : List (Bs × α)) (p : Bs) (x : α) : (put L p x).map (fun e => (e.1, f e.2)) = put (L.map fun e => (e.1, f e.2)) p (f x) := by
  unfold put
  rw [ins_map, del_map]

theorem mem_del {L : List (Bs × α)} {p : Bs} {e : Bs × α} : e ∈ del L p ↔ e ∈ L ∧ e.1 ≠ p := by simp [del]
theorem mem_ins {L : List (Bs × α)} {x e : Bs × α} : e ∈ ins x L ↔ e = x ∨ e ∈ L := by
  induction L with
  | nil => simp [ins]
  | cons y r ih =>
    unfold ins
    split
    · simp
    · simp only [List.mem_cons, ih]
      constructor
      · rintro (h | h | h)
        · exact .inr (.inl h)
        · exact .inl h
        · exact .inr (.inr h)
      · rintro (h | h | h)
        · exact .inr (.inl h)
        · exact .inl h
        · exact .inr (.inr h)
theorem mem_put {L : List (Bs × α)} {p : Bs} {x : α} {e : Bs × α} : e ∈ put L p x ↔ e = (p, x) ∨ (e ∈ L ∧ e.1 ≠ p) := by
  unfold put
  rw [mem_ins, mem_del]
theorem fnd_ins_same {L : List (Bs × α)} {p : Bs} {x : α} (h : ∀ e ∈ L, e.1 ≠ p) : fnd (ins (p, x) L) p = some x := by
  induction L with
  | nil => simp [ins, fnd_cons]
  | cons y r ih =>
    unfold ins
    split
    · simp [fnd_cons]
    · rw [fnd_cons, if_neg (h y List.mem_cons_self)]
      exact ih fun e he => h e (List.mem_cons_of_mem _ he)
theorem fnd_ins_other {L : List (Bs × α)} {p q : Bs} {x : α} (h : p ≠ q) : fnd (ins (p, x) L) q = fnd L q := by
  induction L with
  | nil => simp [ins, fnd_cons, h]
  | cons y r ih =>
    unfold ins
    split
    · rw [fnd_cons, if_neg h]
    · rw [fnd_cons, fnd_cons, ih]
theorem fnd_del_same (L : List (Bs × α)) (p : Bs) : fnd (del L p) p = none := fnd_none_of fun _ he => (mem_del.1 he).2
theorem fnd_del_other (L : List (Bs × α)) {p q : Bs} (h : p ≠ q) : fnd (del L p) q = fnd L q := by
  induction L with
  | nil => rfl
  | cons y r ih =>
    unfold del at ih ⊢
    rw [List.filter_cons]
    by_cases e : y.1 = p
    · rw [if_neg (by simp [e]), ih, fnd_cons, if_neg (fun e2 => h (e.symm.trans e2))]
    · rw [if_pos (by simp [e]), fnd_cons, fnd_cons, ih]
theorem fnd_put_same (L : List (Bs × α)) (p : Bs) (x : α) : fnd (put L p x) p = some x := fnd_ins_same fun _ he => (mem_del.1 he).2
theorem fnd_put_other (L : List (Bs × α)) {p q : Bs} (x : α) (h : p ≠ q) : fnd (put L p x) q = fnd L q := by
  unfold put
  rw [fnd_ins_other h, fnd_del_other L h]

theorem del_none {L : List (Bs × α)} {p : Bs} (h : fnd L p = none) : del L p = L := by
  unfold del
  exact List.filter_eq_self.2 fun e he => by simpa using fnd_none h e he
theorem Srt.del {L : List (Bs × α)} (h : Srt L) (p : Bs) : Srt (del L p) := List.Pairwise.filter _ h
theorem Srt.ins {L : List (Bs × α)} (h : Srt L) {x : Bs × α} (hx : ∀ e ∈ L, e.1 ≠ x.1) : Srt (ins x L) := by
  unfold Srt at h ⊢
  induction L with
  | nil => simp [YtabmnkddmdffkaaGreatDoor.ins]
  | cons y r ih =>
    obtain ⟨h1, h2⟩ := List.pairwise_cons.1 h
    unfold YtabmnkddmdffkaaGreatDoor.ins
    split
    · rename_i hb
      refine List.pairwise_cons.2 ⟨fun e he => ?_, h⟩
      rcases List.mem_cons.1 he with rfl | he
      · exact hb
      · exact before_trans _ _ _ hb (h1 e he)
    · rename_i hb
      refine List.pairwise_cons.2 ⟨fun e he => ?_, ih h2 fun e he => hx e (List.mem_cons_of_mem _ he)⟩
      rcases mem_ins.1 he with rfl | he
      · rcases before_total y.1 e.1 with q | q | q
        · exact q
        · exact absurd q (hx y List.mem_cons_self)
        · exact absurd q hb
      · exact h1 e he
theorem Srt.put {L : List (Bs × α)} (h : Srt L) (p : Bs) (x : α) : Srt (put L p x) := (h.del p).ins fun _ he => (mem_del.1 he).2
theorem Srt.map {L : List (Bs × α)} (h : Srt L) (f : α → β) : Srt (L.map fun e => (e.1, f e.2)) := List.Pairwise.map _ (fun _ _ h => h) h
theorem Srt.keys {L : List (Bs × α)} (h : Srt L) : L.Pairwise (fun a b => a.1 ≠ b.1) := List.Pairwise.imp (fun h => before_ne h) h
theorem Srt.fnd {L : List (Bs × α)} (h : Srt L) {p : Bs} {x : α} (hm : (p, x) ∈ L) : fnd L p = some x := by
  induction L with
  | nil => cases hm
  | cons y r ih =>
    obtain ⟨h1, h2⟩ := List.pairwise_cons.1 h
    rw [fnd_cons]
    rcases List.mem_cons.1 hm with rfl | hm
    · rw [if_pos rfl]
    · rw [if_neg (before_ne (h1 _ hm))]
      exact ih h2 hm
theorem ins_length (x : Bs × α) (L : List (Bs × α)) : (ins x L).length = L.length + 1 := by
  induction L with
  | nil => rfl
  | cons y r ih =>
    unfold ins
    split
    · rfl
    · simp [ih]
theorem put_length (L : List (Bs × α)) (p : Bs) (x : α) : (put L p x).length = (del L p).length + 1 := ins_length _ _
theorem del_length_le (L : List (Bs × α)) (p : Bs) : (del L p).length ≤ L.length := List.length_filter_le _ _

/-- a sum over all that lies there -/
def sumOf (f : α → Nat) : List (Bs × α) → Nat
  | [] => 0
  | x :: r => f x.2 + sumOf f r
theorem sumOf_ins (f : α → Nat) (x : Bs × α) (L : List (Bs × α)) : sumOf f (ins x L) = f x.2 + sumOf f L := by
  induction L with
  | nil => rfl
  | cons y r ih =>
    unfold ins
    split
    · rfl
    · simp only [sumOf, ih]; omega
theorem sumOf_del (f : α → Nat) {L : List (Bs × α)} (h : Srt L) (p : Bs) : sumOf f (del L p) + (match fnd L p with | some x => f x | none => 0) = sumOf f L := by
  induction L with
  | nil => rfl
  | cons y r ih =>
    obtain ⟨h1, h2⟩ := List.pairwise_cons.1 h
    have ih := ih h2
    rw [fnd_cons]
    by_cases e : y.1 = p
    · have hn : fnd r p = none := fnd_none_of fun q hq => fun e2 => before_ne (h1 q hq) (e.trans e2.symm)
      rw [hn] at ih
      rw [if_pos e]
      unfold del at ih ⊢
      rw [List.filter_cons, if_neg (by simp [e])]
      simp only [sumOf] at ih ⊢
      omega
    · rw [if_neg e]
      unfold del at ih ⊢
      rw [List.filter_cons, if_pos (by simp [e])]
      simp only [sumOf] at ih ⊢
      omega
theorem sumOf_put (f : α → Nat) (L : List (Bs × α)) (p : Bs) (x : α) : sumOf f (put L p x) = f x + sumOf f (del L p) := sumOf_ins _ _ _
theorem sumOf_map (f : β → Nat) (g : α → β) (L : List (Bs × α)) : sumOf f (L.map fun e => (e.1, g e.2)) = sumOf (fun x => f (g x)) L := by
  induction L with
  | nil => rfl
  | cons y r ih => simp only [List.map_cons, sumOf, ih]
theorem length_sumOf (L : List (Bs × α)) : L.length = sumOf (fun _ => 1) L := by
  induction L with
  | nil => rfl
  | cons y r ih => simp only [List.length_cons, sumOf, ih]; omega
theorem del_length {L : List (Bs × α)} (h : Srt L) (p : Bs) : (del L p).length + (match fnd L p with | some _ => 1 | none => 0) = L.length := by
  have := sumOf_del (fun _ => 1) h p
  rw [← length_sumOf, ← length_sumOf] at this
  exact this

/- looking for a path -/
/-- where the names of a path end -/
def ends (p : Bs) : List Nat := ((List.range p.length).map (· + 1)).filter (fun i => i == p.length || p.getD i 0 == 47)
/-- what is met: an error, nothing, the root, something -/
inductive Lk (α : Type) where
  | bad (e : Nat)
  | non
  | rt
  | is (x : α)
def Lk.map (f : α → β) : Lk α → Lk β
  | .bad e => .bad e
  | .non => .non
  | .rt => .rt
  | .is x => .is (f x)
def lkOf : Option α → Lk α
  | none => .non
  | some x => .is x
/-- one name on -/
def stp (isd : α → Bool) (L : List (Bs × α)) (p : Bs) : Lk α → Nat → Lk α
  | .bad e, _ => .bad e
  | .non, _ => .bad 10
  | .rt, i => lkOf (fnd L (p.take i))
  | .is x, i => if isd x then lkOf (fnd L (p.take i)) else .bad 11
def lookE (isd : α → Bool) (L : List (Bs × α)) (p : Bs) (l : List Nat) : Lk α := l.foldl (stp isd L p) .rt
def lookP (isd : α → Bool) (L : List (Bs × α)) (p : Bs) : Lk α := lookE isd L p (ends p)
theorem stp_bad (isd : α → Bool) (L : List (Bs × α)) (p : Bs) (l : List Nat) (e : Nat) : l.foldl (stp isd L p) (.bad e) = .bad e := by
  induction l with
  | nil => rfl
  | cons i r ih => exact ih
theorem lookE_snoc (isd : α → Bool) (L : List (Bs × α)) (p : Bs) (l : List Nat) (i : Nat) : lookE isd L p (l ++ [i]) = stp isd L p (lookE isd L p l) i := by
  unfold lookE
  rw [List.foldl_append]
  rfl
theorem lkOf_map (f : α → β) (o : Option α) : lkOf (o.map f) = (lkOf o).map f := by cases o <;> rfl
theorem lookE_map (f : α → β) (isd : β → Bool) (L : List (Bs × α)) (p : Bs) (l : List Nat) : lookE isd (L.map fun e => (e.1, f e.2)) p l = (lookE (fun x => isd (f x)) L p l).map f := by
  have key : ∀ (l : List Nat) (st : Lk α), l.foldl (stp isd (L.map fun e => (e.1, f e.2)) p) (st.map f) = (l.foldl (stp (fun x => isd (f x)) L p) st).map f := by
    intro l
    induction l with
    | nil => intro st; rfl
    | cons i r ih =>
      intro st
      have e : stp isd (L.map fun e => (e.1, f e.2)) p (st.map f) i = (stp (fun x => isd (f x)) L p st i).map f := by
        cases st with
        | bad e => rfl
        | non => rfl
        | rt => simp only [Lk.map, stp, fnd_map, lkOf_map]
        | is x =>
          simp only [Lk.map, stp, fnd_map]
          split
          · exact lkOf_map f _
          · rfl
      rw [List.foldl_cons, List.foldl_cons, e, ih]
  exact key l .rt
theorem lookP_map (f : α → β) (isd : β → Bool) (L : List (Bs × α)) (p : Bs) : lookP isd (L.map fun e => (e.1, f e.2)) p = (lookP (fun x => isd (f x)) L p).map f := lookE_map f isd L p _
end

/-- a file or a directory -/
structure Nd where
  dir : Bool
  time : Int
  data : Bs
def Nd.wt (n : Nd) : Nat := 1 + n.data.length
def weight (L : List (Bs × Nd)) : Nat := sumOf Nd.wt L

/- how a map of addresses reads -/
def datum {H : Type} (L : List (Bs × Nat)) : DataW H := .map (L.map fun e => (.string e.1, .lit (.int .u64 e.2)))
def litOf {H : Type} (e : Bs × Nat) : Lit × DataW H := (.string e.1, .lit (.int .u64 e.2))
theorem find_lit {H : Type} (p : Bs) (L : List (Bs × Nat)) : (L.map (litOf (H := H))).find? (fun q => q.1.sameKey (.string p)) = (L.find? (fun e => e.1 == p)).map litOf := by
  rw [List.find?_map]
  rfl
theorem datum_at {H : Type} (L : List (Bs × Nat)) (p : Bs) : (datum L : DataW H).atKey (.string p) .nil = match fnd L p with | some b => .lit (.int .u64 b) | none => .nil := by
  have h := find_lit (H := H) p L
  show (match (L.map (litOf (H := H))).find? (fun q => q.1.sameKey (.string p)) with | some q => q.2 | none => .nil) = _
  rw [h]
  unfold fnd
  cases L.find? (fun e => e.1 == p) <;> rfl
theorem datum_del {H : Type} (L : List (Bs × Nat)) (p : Bs) : (datum L : DataW H).del (.string p) = datum (del L p) := by
  unfold datum DataW.del del
  simp only [DataW.map.injEq]
  rw [List.filter_map]
  rfl
theorem datum_ins {H : Type} (p : Bs) (b : Nat) (L : List (Bs × Nat)) : DataW.insert (H := H) (.string p, .lit (.int .u64 b)) (L.map fun e => (.string e.1, .lit (.int .u64 e.2))) = (ins (p, b) L).map fun e => (.string e.1, .lit (.int .u64 e.2)) := by
  induction L with
  | nil => rfl
  | cons y r ih =>
    unfold ins
    rw [List.map_cons]
    unfold DataW.insert
    by_cases hb : bytesBefore p y.1 = true
    · have hb' : (Lit.string p).before (Lit.string y.1) = true := hb
      rw [if_pos hb, if_pos hb']; rfl
    · have hb' : ¬ (Lit.string p).before (Lit.string y.1) = true := hb
      rw [if_neg hb, if_neg hb', List.map_cons, ih]
theorem datum_put {H : Type} (L : List (Bs × Nat)) (p : Bs) (b : Nat) : (datum L : DataW H).put (.string p) (.lit (.int .u64 b)) = datum (put L p b) := by
  have h := datum_del (H := H) L p
  unfold datum DataW.del at h
  unfold datum DataW.put put
  simp only [DataW.map.injEq] at h ⊢
  rw [h, datum_ins]
theorem datum_size {H : Type} (L : List (Bs × Nat)) : Maps.size (datum L : DataW H) = L.length := by simp [Maps.size, datum]
end Go.Proofs.YtabmnkddmdffkaaGreatDoor
