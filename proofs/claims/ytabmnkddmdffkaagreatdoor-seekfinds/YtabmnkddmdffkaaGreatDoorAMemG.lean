import GoSem.ClaimMapViews
import Derived.Maps.OwnSet
import Derived.Test.YtabmnkddmdffkaaGreatDoorAWordG
import Derived.Maps.OwnIn
import Derived.Maps.RangeWalk
import Derived.Deep.AppendSrc
import Derived.Lib.BufferWrite
import Derived.BigQuiet
import Derived.OneCell
namespace Go.Proofs.YtabmnkddmdffkaaGreatDoor
open Go
abbrev Bs := List UInt8
theorem before_irrefl : ∀ a : Bs, bytesBefore a a = false
 | [] => rfl
 | x :: r => by simp [bytesBefore, before_irrefl r]
theorem before_trans : ∀ a b c : Bs, bytesBefore a b = true → bytesBefore b c = true → bytesBefore a c = true
 | [], [], _, h, _ => by simp [bytesBefore] at h
 | [], _ :: _, [], _, h => by simp [bytesBefore] at h
 | [], _ :: _, _ :: _, _, _ => rfl
 | _ :: _, [], _, h, _ => by simp [bytesBefore] at h
 | _ :: _, _ :: _, [], _, h => by simp [bytesBefore] at h
 | x :: r, y :: s, z :: t, h, k => by
  simp only [bytesBefore, Bool.or_eq_true, Bool.and_eq_true, decide_eq_true_eq, beq_iff_eq] at h k ⊢
  rcases h with h | ⟨rfl, h⟩
  ·rcases k with k | ⟨rfl, k⟩
   ·exact .inl (UInt8.lt_trans h k)
   ·exact .inl h
  ·rcases k with k | ⟨rfl, k⟩
   ·exact .inl k
   ·exact .inr ⟨rfl, before_trans r s t h k⟩
theorem before_total : ∀ a b : Bs, bytesBefore a b = true ∨ a = b ∨ bytesBefore b a = true
 | [], [] => .inr (.inl rfl)
 | [], _ :: _ => .inl rfl
 | _ :: _, [] => .inr (.inr rfl)
 | x :: r, y :: s => by
  simp only [bytesBefore, Bool.or_eq_true, Bool.and_eq_true, decide_eq_true_eq, beq_iff_eq, List.cons.injEq]
  by_cases e : x = y
  ·subst e
   rcases before_total r s with h | h | h
   ·exact .inl (.inr ⟨rfl, h⟩)
   ·exact .inr (.inl ⟨rfl, h⟩)
   ·exact .inr (.inr (.inr ⟨rfl, h⟩))
  ·rcases Nat.lt_or_ge x.toNat y.toNat with h | h
   ·exact .inl (.inl (UInt8.lt_iff_toNat_lt.2 h))
   ·exact .inr (.inr (.inl (UInt8.lt_iff_toNat_lt.2 (Nat.lt_of_le_of_ne h (fun q => e (UInt8.toNat_inj.1 q.symm))))))
theorem before_ne {a b : Bs} (h : bytesBefore a b = true) : a ≠ b := fun e => by rw [e, before_irrefl] at h; cases h
theorem before_asymm {a b : Bs} (h : bytesBefore a b = true) : bytesBefore b a = false := by
 cases k : bytesBefore b a with
 | false => rfl
 | true => have := before_trans a b a h k; rw [before_irrefl] at this; cases this
section
variable {α β : Type}
def fnd (L : List (Bs × α)) (p : Bs) : Option α := (L.find? (fun e => e.1 == p)).map (·.2)
def del (L : List (Bs × α)) (p : Bs) : List (Bs × α) := L.filter (fun e => !(e.1 == p))
def ins (x : Bs × α) : List (Bs × α) → List (Bs × α)
 | [] => [x]
 | y :: r => if bytesBefore x.1 y.1 then x :: y :: r else y :: ins x r
def put (L : List (Bs × α)) (p : Bs) (x : α) : List (Bs × α) := ins (p, x) (del L p)
def Srt (L : List (Bs × α)) : Prop := L.Pairwise (fun a b => bytesBefore a.1 b.1 = true)
theorem fnd_nil (p : Bs) : fnd ([] : List (Bs × α)) p = none := rfl
theorem fnd_cons (x : Bs × α) (L : List (Bs × α)) (p : Bs) : fnd (x :: L) p = if x.1 = p then some x.2 else fnd L p := by
 unfold fnd
 by_cases h : x.1 = p
 ·simp [h]
 ·have : (x.1 == p) = false := beq_eq_false_iff_ne.2 h
  simp [this, h]
theorem fnd_mem {L : List (Bs × α)} {p : Bs} {x : α} (h : fnd L p = some x) : (p, x) ∈ L := by
 induction L with
 | nil => cases h
 | cons y r ih =>
  rw [fnd_cons] at h
  by_cases e : y.1 = p
  ·rw [if_pos e] at h
   cases h
   rw [← e]
   exact List.mem_cons_self
  ·rw [if_neg e] at h
   exact List.mem_cons_of_mem _ (ih h)
theorem fnd_none {L : List (Bs × α)} {p : Bs} (h : fnd L p = none) : ∀ e ∈ L, e.1 ≠ p := by
 induction L with
 | nil => intro e he; cases he
 | cons y r ih =>
  rw [fnd_cons] at h
  by_cases e : y.1 = p
  ·rw [if_pos e] at h; cases h
  ·rw [if_neg e] at h
   intro x hx
   rcases List.mem_cons.1 hx with rfl | hx
   ·exact e
   ·exact ih h x hx
theorem fnd_none_of {L : List (Bs × α)} {p : Bs} (h : ∀ e ∈ L, e.1 ≠ p) : fnd L p = none := by
 induction L with
 | nil => rfl
 | cons y r ih => rw [fnd_cons, if_neg (h y List.mem_cons_self)]; exact ih fun e he => h e (List.mem_cons_of_mem _ he)
theorem fnd_map (f : α → β) (L : List (Bs × α)) (p : Bs) : fnd (L.map fun e => (e.1, f e.2)) p = (fnd L p).map f := by
 induction L with
 | nil => rfl
 | cons y r ih =>
  rw [List.map_cons, fnd_cons, fnd_cons, ih]
  split <;> rfl
theorem del_map (f : α → β) (L : List (Bs × α)) (p : Bs) : (del L p).map (fun e => (e.1, f e.2)) = del (L.map fun e => (e.1, f e.2)) p := by
 unfold del
 rw [List.filter_map]
 rfl
theorem ins_map (f : α → β) (x : Bs × α) (L : List (Bs × α)) : (ins x L).map (fun e => (e.1, f e.2)) = ins (x.1, f x.2) (L.map fun e => (e.1, f e.2)) := by
 induction L with
 | nil => rfl
 | cons y r ih =>
  unfold ins
  rw [List.map_cons]
  split <;> simp_all
theorem put_map (f : α → β) (L : List (Bs × α)) (p : Bs) (x : α) : (put L p x).map (fun e => (e.1, f e.2)) = put (L.map fun e => (e.1, f e.2)) p (f x) := by
 unfold put
 rw [ins_map, del_map]
theorem mem_del {L : List (Bs × α)} {p : Bs} {e : Bs × α} : e ∈ del L p ↔ e ∈ L ∧ e.1 ≠ p := by simp [del]
theorem mem_ins {L : List (Bs × α)} {x e : Bs × α} : e ∈ ins x L ↔ e = x ∨ e ∈ L := by
 induction L with
 | nil => simp [ins]
 | cons y r ih =>
  unfold ins
  split
  ·simp
  ·simp only [List.mem_cons, ih]
   constructor
   ·rintro (h | h | h)
    ·exact .inr (.inl h)
    ·exact .inl h
    ·exact .inr (.inr h)
   ·rintro (h | h | h)
    ·exact .inr (.inl h)
    ·exact .inl h
    ·exact .inr (.inr h)
theorem mem_put {L : List (Bs × α)} {p : Bs} {x : α} {e : Bs × α} : e ∈ put L p x ↔ e = (p, x) ∨ (e ∈ L ∧ e.1 ≠ p) := by
 unfold put
 rw [mem_ins, mem_del]
theorem fnd_ins_same {L : List (Bs × α)} {p : Bs} {x : α} (h : ∀ e ∈ L, e.1 ≠ p) : fnd (ins (p, x) L) p = some x := by
 induction L with
 | nil => simp [ins, fnd_cons]
 | cons y r ih =>
  unfold ins
  split
  ·simp [fnd_cons]
  ·rw [fnd_cons, if_neg (h y List.mem_cons_self)]
   exact ih fun e he => h e (List.mem_cons_of_mem _ he)
theorem fnd_ins_other {L : List (Bs × α)} {p q : Bs} {x : α} (h : p ≠ q) : fnd (ins (p, x) L) q = fnd L q := by
 induction L with
 | nil => simp [ins, fnd_cons, h]
 | cons y r ih =>
  unfold ins
  split
  ·rw [fnd_cons, if_neg h]
  ·rw [fnd_cons, fnd_cons, ih]
theorem fnd_del_same (L : List (Bs × α)) (p : Bs) : fnd (del L p) p = none := fnd_none_of fun _ he => (mem_del.1 he).2
theorem fnd_del_other (L : List (Bs × α)) {p q : Bs} (h : p ≠ q) : fnd (del L p) q = fnd L q := by
 induction L with
 | nil => rfl
 | cons y r ih =>
  unfold del at ih ⊢
  rw [List.filter_cons]
  by_cases e : y.1 = p
  ·rw [if_neg (by simp [e]), ih, fnd_cons, if_neg (fun e2 => h (e.symm.trans e2))]
  ·rw [if_pos (by simp [e]), fnd_cons, fnd_cons, ih]
theorem fnd_put_same (L : List (Bs × α)) (p : Bs) (x : α) : fnd (put L p x) p = some x := fnd_ins_same fun _ he => (mem_del.1 he).2
theorem fnd_put_other (L : List (Bs × α)) {p q : Bs} (x : α) (h : p ≠ q) : fnd (put L p x) q = fnd L q := by
 unfold put
 rw [fnd_ins_other h, fnd_del_other L h]
theorem del_none {L : List (Bs × α)} {p : Bs} (h : fnd L p = none) : del L p = L := by
 unfold del
 exact List.filter_eq_self.2 fun e he => by simpa using fnd_none h e he
theorem Srt.del {L : List (Bs × α)} (h : Srt L) (p : Bs) : Srt (del L p) := List.Pairwise.filter _ h
theorem Srt.ins {L : List (Bs × α)} (h : Srt L) {x : Bs × α} (hx : ∀ e ∈ L, e.1 ≠ x.1) : Srt (ins x L) := by
 unfold Srt at h ⊢
 induction L with
 | nil => simp [YtabmnkddmdffkaaGreatDoor.ins]
 | cons y r ih =>
  obtain ⟨h1, h2⟩ := List.pairwise_cons.1 h
  unfold YtabmnkddmdffkaaGreatDoor.ins
  split
  ·rename_i hb
   refine List.pairwise_cons.2 ⟨fun e he => ?_, h⟩
   rcases List.mem_cons.1 he with rfl | he
   ·exact hb
   ·exact before_trans _ _ _ hb (h1 e he)
  ·rename_i hb
   refine List.pairwise_cons.2 ⟨fun e he => ?_, ih h2 fun e he => hx e (List.mem_cons_of_mem _ he)⟩
   rcases mem_ins.1 he with rfl | he
   ·rcases before_total y.1 e.1 with q | q | q
    ·exact q
    ·exact absurd q (hx y List.mem_cons_self)
    ·exact absurd q hb
   ·exact h1 e he
theorem Srt.put {L : List (Bs × α)} (h : Srt L) (p : Bs) (x : α) : Srt (put L p x) := (h.del p).ins fun _ he => (mem_del.1 he).2
theorem Srt.map {L : List (Bs × α)} (h : Srt L) (f : α → β) : Srt (L.map fun e => (e.1, f e.2)) := List.Pairwise.map _ (fun _ _ h => h) h
theorem Srt.fnd {L : List (Bs × α)} (h : Srt L) {p : Bs} {x : α} (hm : (p, x) ∈ L) : fnd L p = some x := by
 induction L with
 | nil => cases hm
 | cons y r ih =>
  obtain ⟨h1, h2⟩ := List.pairwise_cons.1 h
  rw [fnd_cons]
  rcases List.mem_cons.1 hm with rfl | hm
  ·rw [if_pos rfl]
  ·rw [if_neg (before_ne (h1 _ hm))]
   exact ih h2 hm
theorem ins_length (x : Bs × α) (L : List (Bs × α)) : (ins x L).length = L.length + 1 := by
 induction L with
 | nil => rfl
 | cons y r ih =>
  unfold ins
  split
  ·rfl
  ·simp [ih]
theorem put_length (L : List (Bs × α)) (p : Bs) (x : α) : (put L p x).length = (del L p).length + 1 := ins_length _ _
theorem del_length_le (L : List (Bs × α)) (p : Bs) : (del L p).length ≤ L.length := List.length_filter_le _ _
def sumOf (f : α → Nat) : List (Bs × α) → Nat
 | [] => 0
 | x :: r => f x.2 + sumOf f r
theorem sumOf_ins (f : α → Nat) (x : Bs × α) (L : List (Bs × α)) : sumOf f (ins x L) = f x.2 + sumOf f L := by
 induction L with
 | nil => rfl
 | cons y r ih =>
  unfold ins
  split
  ·rfl
  ·simp only [sumOf, ih]; omega
theorem sumOf_del (f : α → Nat) {L : List (Bs × α)} (h : Srt L) (p : Bs) : sumOf f (del L p) + (match fnd L p with | some x => f x | none => 0) = sumOf f L := by
 induction L with
 | nil => rfl
 | cons y r ih =>
  obtain ⟨h1, h2⟩ := List.pairwise_cons.1 h
  have ih := ih h2
  rw [fnd_cons]
  by_cases e : y.1 = p
  ·have hn : fnd r p = none := fnd_none_of fun q hq => fun e2 => before_ne (h1 q hq) (e.trans e2.symm)
   rw [hn] at ih
   rw [if_pos e]
   unfold del at ih ⊢
   rw [List.filter_cons, if_neg (by simp [e])]
   simp only [sumOf] at ih ⊢
   omega
  ·rw [if_neg e]
   unfold del at ih ⊢
   rw [List.filter_cons, if_pos (by simp [e])]
   simp only [sumOf] at ih ⊢
   omega
theorem sumOf_put (f : α → Nat) (L : List (Bs × α)) (p : Bs) (x : α) : sumOf f (put L p x) = f x + sumOf f (del L p) := sumOf_ins _ _ _
theorem sumOf_map (f : β → Nat) (g : α → β) (L : List (Bs × α)) : sumOf f (L.map fun e => (e.1, g e.2)) = sumOf (fun x => f (g x)) L := by
 induction L with
 | nil => rfl
 | cons y r ih => simp only [List.map_cons, sumOf, ih]
def ends (p : Bs) : List Nat := ((List.range p.length).map (· + 1)).filter (fun i => i == p.length || p.getD i 0 == 47)
inductive Lk (α : Type) where
 | bad (e : Nat)
 | non
 | rt
 | is (x : α)
def Lk.map (f : α → β) : Lk α → Lk β
 | .bad e => .bad e
 | .non => .non
 | .rt => .rt
 | .is x => .is (f x)
def lkOf : Option α → Lk α
 | none => .non
 | some x => .is x
def stp (isd : α → Bool) (L : List (Bs × α)) (p : Bs) : Lk α → Nat → Lk α
 | .bad e, _ => .bad e
 | .non, _ => .bad 10
 | .rt, i => lkOf (fnd L (p.take i))
 | .is x, i => if isd x then lkOf (fnd L (p.take i)) else .bad 11
def lookE (isd : α → Bool) (L : List (Bs × α)) (p : Bs) (l : List Nat) : Lk α := l.foldl (stp isd L p) .rt
def lookP (isd : α → Bool) (L : List (Bs × α)) (p : Bs) : Lk α := lookE isd L p (ends p)
theorem stp_bad (isd : α → Bool) (L : List (Bs × α)) (p : Bs) (l : List Nat) (e : Nat) : l.foldl (stp isd L p) (.bad e) = .bad e := by
 induction l with
 | nil => rfl
 | cons i r ih => exact ih
theorem lookE_snoc (isd : α → Bool) (L : List (Bs × α)) (p : Bs) (l : List Nat) (i : Nat) : lookE isd L p (l ++ [i]) = stp isd L p (lookE isd L p l) i := by
 unfold lookE
 rw [List.foldl_append]
 rfl
theorem lkOf_map (f : α → β) (o : Option α) : lkOf (o.map f) = (lkOf o).map f := by cases o <;> rfl
theorem lookE_map (f : α → β) (isd : β → Bool) (L : List (Bs × α)) (p : Bs) (l : List Nat) : lookE isd (L.map fun e => (e.1, f e.2)) p l = (lookE (fun x => isd (f x)) L p l).map f := by
 have key : ∀ (l : List Nat) (st : Lk α), l.foldl (stp isd (L.map fun e => (e.1, f e.2)) p) (st.map f) = (l.foldl (stp (fun x => isd (f x)) L p) st).map f := by
  intro l
  induction l with
  | nil => intro st; rfl
  | cons i r ih =>
   intro st
   have e : stp isd (L.map fun e => (e.1, f e.2)) p (st.map f) i = (stp (fun x => isd (f x)) L p st i).map f := by
    cases st with
    | bad e => rfl
    | non => rfl
    | rt => simp only [Lk.map, stp, fnd_map, lkOf_map]
    | is x =>
     simp only [Lk.map, stp, fnd_map]
     split
     ·exact lkOf_map f _
     ·rfl
   rw [List.foldl_cons, List.foldl_cons, e, ih]
 exact key l .rt
theorem lookP_map (f : α → β) (isd : β → Bool) (L : List (Bs × α)) (p : Bs) : lookP isd (L.map fun e => (e.1, f e.2)) p = (lookP (fun x => isd (f x)) L p).map f := lookE_map f isd L p _
end
structure Nd where
 dir : Bool
 time : Int
 data : Bs
def Nd.wt (n : Nd) : Nat := 1 + n.data.length
def weight (L : List (Bs × Nd)) : Nat := sumOf Nd.wt L
/- how a map of addresses reads -/
def datum {H : Type} (L : List (Bs × Nat)) : DataW H := .map (L.map fun e => (.string e.1, .lit (.int .u64 e.2)))
def litOf {H : Type} (e : Bs × Nat) : Lit × DataW H := (.string e.1, .lit (.int .u64 e.2))
theorem find_lit {H : Type} (p : Bs) (L : List (Bs × Nat)) : (L.map (litOf (H := H))).find? (fun q => q.1.sameKey (.string p)) = (L.find? (fun e => e.1 == p)).map litOf := by
 rw [List.find?_map]
 rfl
theorem datum_at {H : Type} (L : List (Bs × Nat)) (p : Bs) : (datum L : DataW H).atKey (.string p) .nil = match fnd L p with | some b => .lit (.int .u64 b) | none => .nil := by
 have h := find_lit (H := H) p L
 show (match (L.map (litOf (H := H))).find? (fun q => q.1.sameKey (.string p)) with | some q => q.2 | none => .nil) = _
 rw [h]
 unfold fnd
 cases L.find? (fun e => e.1 == p) <;> rfl
theorem datum_del {H : Type} (L : List (Bs × Nat)) (p : Bs) : (datum L : DataW H).del (.string p) = datum (del L p) := by
 unfold datum DataW.del del
 simp only [DataW.map.injEq]
 rw [List.filter_map]
 rfl
theorem datum_ins {H : Type} (p : Bs) (b : Nat) (L : List (Bs × Nat)) : DataW.insert (H := H) (.string p, .lit (.int .u64 b)) (L.map fun e => (.string e.1, .lit (.int .u64 e.2))) = (ins (p, b) L).map fun e => (.string e.1, .lit (.int .u64 e.2)) := by
 induction L with
 | nil => rfl
 | cons y r ih =>
  unfold ins
  rw [List.map_cons]
  unfold DataW.insert
  by_cases hb : bytesBefore p y.1 = true
  ·have hb' : (Lit.string p).before (Lit.string y.1) = true := hb
   rw [if_pos hb, if_pos hb']; rfl
  ·have hb' : ¬ (Lit.string p).before (Lit.string y.1) = true := hb
   rw [if_neg hb, if_neg hb', List.map_cons, ih]
theorem datum_put {H : Type} (L : List (Bs × Nat)) (p : Bs) (b : Nat) : (datum L : DataW H).put (.string p) (.lit (.int .u64 b)) = datum (put L p b) := by
 have h := datum_del (H := H) L p
 unfold datum DataW.del at h
 unfold datum DataW.put put
 simp only [DataW.map.injEq] at h ⊢
 rw [h, datum_ins]
theorem datum_size {H : Type} (L : List (Bs × Nat)) : Maps.size (datum L : DataW H) = L.length := by simp [Maps.size, datum]
end Go.Proofs.YtabmnkddmdffkaaGreatDoor
namespace Go.Proofs.YtabmnkddmdffkaaGreatDoor
open Go.RowKit Go.Maps
theorem below_drewn {B : Nat} {w : World} (q : Nat) : Below B w (w.drewN q) := ⟨rfl, rfl, rfl, Nat.le_refl _, fun _ _ => rfl⟩
theorem below_grown {w w' : World} {r : Option Nat} (h : Below w.heap.size w w') : w.grownBy w' r := ⟨h.os, h.tape, h.output, h.size, fun k hk _ => h.block k hk⟩
structure Turn (S : Nat → Prop) (w w' : World) : Prop where
 os : w'.os = w.os
 tape : w'.tape = w.tape
 output : w'.output = w.output
 size : w.heap.size ≤ w'.heap.size
 block : ∀ k, k < w.heap.size → ¬ S k → w'.heap[k]? = w.heap[k]?
theorem Turn.refl (S : Nat → Prop) (w : World) : Turn S w w := ⟨rfl, rfl, rfl, Nat.le_refl _, fun _ _ _ => rfl⟩
theorem Turn.drew {S : Nat → Prop} {w w' : World} (h : Turn S w w') : Turn S w w'.drew := ⟨h.os, h.tape, h.output, h.size, h.block⟩
theorem Turn.alloc {S : Nat → Prop} {w w' : World} (h : Turn S w w') (o : Obj) : Turn S w (w'.alloc o) := ⟨h.os, h.tape, h.output, Nat.le_trans h.size (by simp), fun k hk hn => (Below.heap_alloc _ _ k (Nat.lt_of_lt_of_le hk h.size)).trans (h.block k hk hn)⟩
theorem Turn.trans {S S' : Nat → Prop} {a b c : World} (h : Turn S a b) (k : Turn S' b c) (hS : ∀ i, S' i → S i ∨ a.heap.size ≤ i) : Turn S a c :=
 ⟨k.os.trans h.os, k.tape.trans h.tape, k.output.trans h.output, Nat.le_trans h.size k.size, fun i hi hn =>
  (k.block i (Nat.lt_of_lt_of_le hi h.size) (fun hs => by rcases hS i hs with h1 | h1; exact hn h1; omega)).trans (h.block i hi hn)⟩
theorem Turn.trans' {S : Nat → Prop} {a b c : World} (h : Turn S a b) (k : Turn S b c) : Turn S a c := h.trans k fun _ hi => .inl hi
theorem Turn.below {S : Nat → Prop} {w w' : World} (h : Turn S w w') {B : Nat} (hB : B ≤ w.heap.size) (hS : ∀ i, S i → B ≤ i) : Below B w w' :=
 ⟨h.os, h.tape, h.output, h.size, fun k hk => h.block k (by omega) fun hs => by have := hS k hs; omega⟩
theorem Turn.of_grown {S : Nat → Prop} {w w' : World} {r : Option Nat} (h : w.grownBy w' r) (hr : ∀ k, r = some k → S k) : Turn S w w' :=
 ⟨h.os, h.tape, h.output, h.size, fun k hk hn => h.block k hk fun e => hn (hr k e.symm)⟩
theorem add_block (a : Addr) (j : Nat) : (a.add j).block = a.block := by unfold Addr.add; split <;> rfl
theorem add_zero (g j : Nat) : (⟨g, 0, none⟩ : Addr).add j = ⟨g, j, none⟩ := by rw [Addr.add_lit, Nat.zero_add]
def Rds (w : World) (v : Value) (bs : Bs) : Prop :=
 (v = .slice none 0 0 ∧ bs = []) ∨ ∃ a cap, v = .slice (some a) bs.length cap ∧ (bs ≠ [] → a.block < w.heap.size) ∧ ∀ j u, (Lib.byteCells bs)[j]? = some u → w.cell? (a.add j) = some u
def Dat (w : World) (v : Value) (bs : Bs) : Prop :=
 (v = .slice none 0 0 ∧ bs = []) ∨ ∃ g cap cur, v = .slice (some ⟨g, 0, none⟩) bs.length cap ∧ w.heap[g]? = some (.cells cur 5 (0, 0)) ∧ bs.length ≤ cap ∧ cap ≤ cur.size ∧ cap ≤ maxLen ∧ cur.toList.take bs.length = Lib.byteCells bs
theorem Dat.nil (w : World) : Dat w (.slice none 0 0) [] := .inl ⟨rfl, rfl⟩
theorem Dat.len {w : World} {v : Value} {bs : Bs} (h : Dat w v bs) : ∃ a cap, v = .slice a bs.length cap := by
 rcases h with ⟨rfl, rfl⟩ | ⟨g, cap, cur, rfl, _⟩
 ·exact ⟨_, _, rfl⟩
 ·exact ⟨_, _, rfl⟩
theorem Rds.len {w : World} {v : Value} {bs : Bs} (h : Rds w v bs) : ∃ a cap, v = .slice a bs.length cap := by
 rcases h with ⟨rfl, rfl⟩ | ⟨g, cap, rfl, _⟩
 ·exact ⟨_, _, rfl⟩
 ·exact ⟨_, _, rfl⟩
theorem Dat.rds {w : World} {v : Value} {bs : Bs} (h : Dat w v bs) : Rds w v bs := by
 rcases h with ⟨rfl, rfl⟩ | ⟨g, cap, cur, rfl, hg, h1, h2, h3, h4⟩
 ·exact .inl ⟨rfl, rfl⟩
 ·refine .inr ⟨_, _, rfl, fun _ => lt_of_block hg, fun j u hj => ?_⟩
  have hjl : j < bs.length := by
   have := (List.getElem?_eq_some_iff.1 hj).1
   rwa [Lib.byteCells_length] at this
  rw [← h4, List.getElem?_take_of_lt hjl] at hj
  rw [add_zero, Lib.cell_of_heap hg]
  simpa using hj
theorem Dat.kept {w w' : World} {v : Value} {bs : Bs} (h : Dat w v bs) (hk : ∀ g, v.ownBlock = some g → w'.heap[g]? = w.heap[g]?) : Dat w' v bs := by
 rcases h with h | ⟨g, cap, cur, rfl, hg, r⟩
 ·exact .inl h
 ·exact .inr ⟨g, cap, cur, rfl, (hk g rfl).trans hg, r⟩
theorem Dat.lt {w : World} {v : Value} {bs : Bs} (h : Dat w v bs) : ∀ g, v.ownBlock = some g → g < w.heap.size := by
 intro g hg
 rcases h with ⟨rfl, _⟩ | ⟨g', cap, cur, rfl, hb, r⟩
 ·cases hg
 ·cases hg; exact lt_of_block hb
theorem Dat.elem {w : World} {v : Value} {bs : Bs} (h : Dat w v bs) : ∀ g, v.ownBlock = some g → ∃ cur, w.heap[g]? = some (.cells cur 5 (0, 0)) := by
 intro g hg
 rcases h with ⟨rfl, _⟩ | ⟨g', cap, cur, rfl, hb, r⟩
 ·cases hg
 ·cases hg; exact ⟨_, hb⟩
theorem cells_ne {bs : Bs} {j : Nat} {u : Value} (h : (Lib.byteCells bs)[j]? = some u) : bs ≠ [] := by
 intro e
 subst e
 have := (List.getElem?_eq_some_iff.1 h).1
 rw [Lib.byteCells_length] at this
 exact absurd this (Nat.not_lt_zero _)
theorem Rds.below {w w' : World} {v : Value} {bs : Bs} (h : Rds w v bs) (hb : Below w.heap.size w w') : Rds w' v bs := by
 rcases h with h | ⟨a, cap, rfl, hl, hc⟩
 ·exact .inl h
 ·exact .inr ⟨a, cap, rfl, fun h => Nat.lt_of_lt_of_le (hl h) hb.size, fun j u hj => (hb.cell (p := a.add j) (by rw [add_block]; exact hl (cells_ne hj))).trans (hc j u hj)⟩
theorem Rds.kept {w w' : World} {v : Value} {bs : Bs} (h : Rds w v bs) (hs : w.heap.size ≤ w'.heap.size) (hk : bs ≠ [] → ∀ g, v.ownBlock = some g → w'.heap[g]? = w.heap[g]?) : Rds w' v bs := by
 rcases h with h | ⟨a, cap, rfl, hl, hc⟩
 ·exact .inl h
 ·exact .inr ⟨a, cap, rfl, fun h => Nat.lt_of_lt_of_le (hl h) hs, fun j u hj => (World.cell?_of_block (a := a.add j) (by rw [add_block]; exact hk (cells_ne hj) a.block rfl)).trans (hc j u hj)⟩
theorem Rds.src {w : World} {v : Value} {bs : Bs} (h : Rds w v bs) : Src Tryz.prog 1 57 v bs.length (Lib.byteCells bs) w := by
 rcases h with ⟨rfl, rfl⟩ | ⟨a, cap, rfl, _, hc⟩
 ·exact Src.ofNil w Tryz.underlying57 0
 ·exact Src.ofSlice w Tryz.underlying57 a bs.length cap (Lib.byteCells bs) (by rw [Lib.byteCells_length, Nat.mul_one]) hc (Lib.byteCells_one bs)
theorem info5 : (Tryz.prog.info? 5).map (fun i : TypeInfo => (i.zero, i.size, i.bytes)) = some (some (.int .u8 0), 1, 1) := by kernel_rfl
theorem dat_new (w : World) (xs : List Value) (bs : Bs) (z : Array Value) (cap : Nat) (hx : xs = Lib.byteCells bs) (hz : z.size = 1) (h1 : bs.length ≤ cap) (h2 : cap ≤ maxLen) :
  Dat (w.drew.alloc (.cells (xs.toArray ++ Builtin.zeroCells z (cap - bs.length)) 5)) (.slice (some ⟨w.heap.size, 0, none⟩) bs.length cap) bs := by
 have hl : xs.length = bs.length := by rw [hx, Lib.byteCells_length]
 refine .inr ⟨w.heap.size, cap, _, rfl, heap_alloc_new w.drew _, h1, ?_, h2, ?_⟩
 ·simp only [Array.size_append, List.size_toArray, size_zeroCells, hz, hl]
  omega
 ·rw [Array.toList_append, ← hl, List.take_left' (by simp)]
  exact hx
set_option maxHeartbeats 1000000 in
theorem append_dat {v x : Value} {xs ys : Bs} (ty : TypeId) (w : World) (hv : Dat w v xs) (hx : Rds w x ys) (hsz : xs.length + ys.length ≤ 1099511627776) :
  ∃ v' w', (Builtin.append_ #[57, 57] ty #[v, x]).run Tryz.prog w = .ok v' w' ∧ Dat w' v' (xs ++ ys) ∧ Dat w' v xs ∧ w.grownBy w' v.ownBlock ∧ (v'.ownBlock = v.ownBlock ∨ v'.ownBlock = some w.heap.size) := by
 obtain ⟨i, hi, hz0, hz1, hz2⟩ := info_parts info5
 have hs := hx.src
 have hbl := Lib.byteCells_length ys
 have hxl := Lib.byteCells_length xs
 have hml : xs.length + ys.length ≤ maxLen := by unfold maxLen; omega
 have e3 : Lib.byteCells (xs ++ ys) = Lib.byteCells xs ++ Lib.byteCells ys := Lib.byteCells_append xs ys
 have hlen : (xs ++ ys).length = xs.length + ys.length := List.length_append
 rcases hv with ⟨rfl, rfl⟩ | ⟨g, cap, cur, rfl, hg, h1, h2, h3, h4⟩
 ·by_cases hy : ys = []
  ·subst hy
   refine ⟨.slice none 0 0, w, ?_, .inl ⟨rfl, rfl⟩, .inl ⟨rfl, rfl⟩, ⟨rfl, rfl, rfl, Nat.le_refl _, fun _ _ _ => rfl⟩, .inl rfl⟩
   rcases hx with ⟨rfl, _⟩ | ⟨a, c, rfl, _, _⟩
   ·simp [Builtin.append_, run_underlying Tryz.underlying57, sizeOf, typeInfo, hi, Builtin.lenOf, Builtin.firstCells]
   ·simp [Builtin.append_, run_underlying Tryz.underlying57, sizeOf, typeInfo, hi, Builtin.lenOf, Builtin.firstCells, loadCells, loadCellsFrom]
  ·have hpos : 0 < ys.length := List.length_pos_iff.2 hy
   have hr := run_append_grow_src w 57 57 ty 5 i (.int .u8 0) Tryz.underlying57 hi hz0 none 0 0 [] (run_firstCells_none w.drew i.size 0 0 0) x ys.length (Lib.byteCells ys) (by rw [hz1]; exact hs) (by omega) (by omega)
    (by rw [hz2]; exact growslice_fits (by omega) (by omega))
   simp only [List.nil_append, Nat.zero_add] at hr
   refine ⟨_, _, hr, ?_, .inl ⟨rfl, rfl⟩, ⟨rfl, rfl, rfl, by simp, fun k hk _ => Lib.alloc_old w.drew _ k hk⟩, .inr rfl⟩
   exact dat_new w _ ys _ _ rfl rfl (grownCap_ge _ _ _ _) (grownCap_le_maxLen _ _ _ _ (by omega))
 ·by_cases hroom : xs.length + ys.length ≤ cap
  ·rcases hx with ⟨rfl, rfl⟩ | ⟨a, c, rfl, hal, hc⟩
   ·refine ⟨_, _, run_append_room_src w 57 57 ty 5 i Tryz.underlying57 hi g 0 xs.length cap (.slice none 0 0) 0 [] (by rw [hz1]; exact hs) (by simpa using hroom) (by simp) (by simp), ?_, ?_, ⟨rfl, rfl, rfl, Nat.le_refl _, fun _ _ _ => rfl⟩, .inl rfl⟩
    ·rw [List.append_nil]
     exact .inr ⟨g, cap, cur, rfl, hg, h1, h2, h3, h4⟩
    ·exact .inr ⟨g, cap, cur, rfl, hg, h1, h2, h3, h4⟩
   ·have hr := run_append_room (P := Tryz.prog) w 57 ty 5 i Tryz.underlying57 hi g xs.length cap cur hg a ys.length c (Lib.byteCells ys) (by rw [hbl, hz1, Nat.mul_one]) hc (Lib.byteCells_one ys) hroom (by rw [hbl, hz1]; omega)
    rw [hz1, Nat.mul_one, h4] at hr
    have hcs : (Lib.byteCells xs ++ Lib.byteCells ys ++ cur.toList.drop (xs.length + (Lib.byteCells ys).length)).toArray.size = cur.size := by
     simp only [List.size_toArray, List.length_append, hxl, hbl, List.length_drop, Array.length_toList]
     omega
    refine ⟨_, _, hr, ?_, ?_, ⟨rfl, rfl, rfl, by simp, fun k _ hk => setRow_other w g k _ (fun e => hk (by simp [Value.ownBlock, e]))⟩, .inl rfl⟩
    ·refine .inr ⟨g, cap, _, by rw [hlen], setRow_heap w g cur _ 5 _ hg, by omega, by rw [hcs]; exact h2, h3, ?_⟩
     rw [e3, List.take_left' (by rw [List.length_append, hxl, hbl, hlen])]
    ·refine .inr ⟨g, cap, _, rfl, setRow_heap w g cur _ 5 _ hg, h1, by rw [hcs]; exact h2, h3, ?_⟩
     rw [List.append_assoc, List.take_left' hxl]
  ·have hold : (Builtin.firstCells i.size xs.length (.slice (some ⟨g, 0, none⟩) xs.length cap)).run Tryz.prog w.drew = .ok (Lib.byteCells xs).toArray w.drew := by
    refine run_firstCells_some w.drew i.size xs.length ⟨g, 0, none⟩ xs.length cap (Lib.byteCells xs) (by rw [hxl, hz1, Nat.mul_one]) fun j u hj => ?_
    have hD : Dat w (.slice (some ⟨g, 0, none⟩) xs.length cap) xs := .inr ⟨g, cap, cur, rfl, hg, h1, h2, h3, h4⟩
    rcases hD.rds with ⟨e, _⟩ | ⟨a', cap', e, _, hcc⟩
    ·cases e
    ·cases e
     simpa using hcc j u hj
   have hr := run_append_grow_src w 57 57 ty 5 i (.int .u8 0) Tryz.underlying57 hi hz0 (some ⟨g, 0, none⟩) xs.length cap (Lib.byteCells xs) hold x ys.length (Lib.byteCells ys) (by rw [hz1]; exact hs) (by omega) (by omega)
    (by rw [hz2]; exact growslice_fits (by omega) (by omega))
   refine ⟨_, _, hr, ?_, .inr ⟨g, cap, cur, rfl, (Lib.alloc_old w.drew _ g (lt_of_block hg)).trans hg, h1, h2, h3, h4⟩, ⟨rfl, rfl, rfl, by simp, fun k hk _ => Lib.alloc_old w.drew _ k hk⟩, .inr rfl⟩
   have := dat_new w _ (xs ++ ys) (Value.int .u8 0).cells (grownCap w (xs.length + ys.length) cap 5) e3.symm rfl (by rw [hlen]; exact grownCap_ge _ _ _ _) (grownCap_le_maxLen _ _ _ _ hml)
   rw [hlen] at this
   exact this
theorem wpList_append_dat {v x : Value} {xs ys : Bs} (w : World) {ops : Array Oper} {rest : List Oper} {o : Oper} {a : Act} {Q : Exit → Act → World → Prop} (hgd : o.guard = none) (s y : Operand)
  (ho : o.op = .call { callee := .builtin .append, args := #[s, y], argTypes := #[57, 57] }) (hs : a.eval s = v) (hy : a.eval y = x)
  (hv : Dat w v xs) (hx : Rds w x ys) (hsz : xs.length + ys.length ≤ 1099511627776)
  (h : ∀ v' w', Dat w' v' (xs ++ ys) → Dat w' v xs → w.grownBy w' v.ownBlock → (v'.ownBlock = v.ownBlock ∨ v'.ownBlock = some w.heap.size) → wpList Tryz.prog ops Q rest (a.put o.dst v') w') :
  wpList Tryz.prog ops Q (o :: rest) a w := by
 refine wpList_plain hgd fun K hK => ?_
 obtain ⟨v', w', hr, h2, h3, h4, h5⟩ := append_dat o.type w hv hx hsz
 unfold Oper.wp execOp
 simp only [ho, resolve, invoke, builtin, Sem.run_bind, Sem.run_pure, Result.andThen_ok, List.map_toArray, List.map_cons, List.map_nil, hs, hy, hr]
 exact hK _ _ (h v' w' h2 h3 h4 h5)
end Go.Proofs.YtabmnkddmdffkaaGreatDoor
