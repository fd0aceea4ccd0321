import Derived.Test.YtabmnkddmdffkaaGreatDoorARFloat
namespace Go.Proofs.YtabmnkddmdffkaaGreatDoor.Arc
open Go
section
variable {P : Program} {md : Region.Mode} {ops : Array Oper} {Q : Exit → Act → World → Prop} {C : World → Prop} {X : List Nat}
def wpAnyX (P : Program) (md : Region.Mode) (ops : Array Oper) (C : World → Prop) (X : List Nat) (Q : Exit → Act → World → Prop) : Nat → Array Bool → Act → World → Prop
 | 0, listed, a, w => Region.ready md ops listed = [] ∧ Q .normal a w
 | fuel + 1, listed, a, w => (Region.ready md ops listed = [] → Q .normal a w) ∧ ∀ i ∈ Region.ready md ops listed, wpOp P ops Q i (fun a' w' => (X.contains i = false → C w') ∧ wpAnyX P md ops C X Q fuel (listed.setIfInBounds i true) a' w') a w
theorem wpAny_of_X : ∀ (fuel : Nat) (listed : Array Bool) (a : Act) (w : World), wpAnyX P md ops C X Q fuel listed a w → wpAny P md ops Q fuel listed a w
 | 0, _, _, _, h => h
 | fuel + 1, _, _, _, h => ⟨h.1, fun i hi => wpOp_mono (fun a' w' h' => wpAny_of_X fuel _ a' w' h'.2) (h.2 i hi)⟩
def depOf (md : Region.Mode) (ops : Array Oper) (i : Nat) : List Nat :=
 (List.range ops.size).foldl (fun D k => if k = i then k :: D else match ops[k]? with
  | some o => if o.after.any (fun e => Region.binds md e && D.contains e.on) then k :: D else D
  | none => D) []
def depsOk (md : Region.Mode) (ops : Array Oper) (listed : Array Bool) (i : Nat) (D X : List Nat) : Bool :=
 D.all (fun k => !listed.getD k true) && D.all (fun k => k == i || match ops[k]? with
  | some o => o.after.any (fun e => Region.binds md e && D.contains e.on)
  | none => true) && X.all (fun k => D.contains k && !(k == i))
theorem wpAnyX_first {i : Nat} {oi : Oper} {v : Value} (D : List Nat) (hi : ops[i]? = some oi) (hsel : ∀ (j : Nat) (o : Oper) cs b, ops[j]? = some o → o.op ≠ .select cs b) (hQ : ∀ c a w, Q (.panic c) (a.put oi.dst v) w → Q (.panic c) a w)
  (hcl : ∀ k ok, ops[k]? = some ok → D.contains k = true → k ≠ i → ∃ e ∈ ok.after, Region.binds md e = true ∧ D.contains e.on = true) (hX : ∀ k, X.contains k = true → D.contains k = true ∧ k ≠ i) :
  ∀ (fuel : Nat) (listed : Array Bool) (a : Act) (w : World), C w → (∀ k, D.contains k = true → listed.getD k true = false) →
   (∀ j oj, ops[j]? = some oj → j ≠ i → listed.getD j true = false → (∀ e ∈ oj.after, Region.binds md e = true → e.on ≠ i) → oi.apart ops oj = true) →
   i ∈ Region.ready md ops listed → YieldsC P ops C oi v a →
   wpAnyX P md ops C X Q fuel (listed.setIfInBounds i true) (a.put oi.dst v) w → wpAnyX P md ops C X Q (fuel + 1) listed a w := by
 intro fuel
 induction fuel with
 | zero =>
  intro listed a w hc _ _ hr hy H
  refine ⟨fun h => (by rw [h] at hr; cases hr), fun j hj => ?_⟩
  by_cases hji : j = i
  ·subst hji; exact hy.wpOp hi hc ⟨fun _ => hc, H⟩
  ·have := ready_mono hj hji
   rw [H.1] at this
   cases this
 | succ fuel ih =>
  intro listed a w hc hD hfree hr hy H
  refine ⟨fun h => (by rw [h] at hr; cases hr), fun j hj => ?_⟩
  by_cases hji : j = i
  ·subst hji; exact hy.wpOp hi hc ⟨fun _ => hc, H⟩
  ·have h1 := H.2 j (ready_mono hj hji)
   obtain ⟨hjun, oj, hoj, hall⟩ := mem_ready.1 hj
   have hun : ∀ k, listed.getD k true = false → listed.getD k false = true → False := fun k h0 h1 => by
    rcases Nat.lt_or_ge k listed.size with h' | h'
    ·simp [h'] at h0 h1; rw [h0] at h1; cases h1
    ·simp [Array.getElem?_eq_none h'] at h1
   have hnot : ∀ e ∈ oj.after, Region.binds md e = true → e.on ≠ i := fun e he hb heq => by
    have h1 := hall e he hb
    rw [heq] at h1
    exact hun i (mem_ready.1 hr).1 h1
   have hjD : D.contains j = false := by
    cases hd : D.contains j with
    | false => rfl
    | true =>
     obtain ⟨e, he, hb, hde⟩ := hcl j oj hoj hd hji
     exact (hun e.on (hD e.on hde) (hall e he hb)).elim
   have hjX : X.contains j = false := by
    cases hx : X.contains j with
    | false => rfl
    | true => rw [(hX j hx).1] at hjD; cases hjD
   have h2 := wpOp_putC hoj (hfree j oj hoj hji hjun hnot) (fun cs b => hsel i oi cs b hi) (fun cs b => hsel j oj cs b hoj) hQ hy h1
   have hfree' : ∀ k ok, ops[k]? = some ok → k ≠ i → (listed.setIfInBounds j true).getD k true = false → (∀ e ∈ ok.after, Region.binds md e = true → e.on ≠ i) → oi.apart ops ok = true := fun k ok hk hki hun hno => by
    refine hfree k ok hk hki ?_ hno
    by_cases hjk : j = k
    ·subst hjk; exact hjun
    ·rw [getD_set_ne true hjk] at hun; exact hun
   have hD' : ∀ k, D.contains k = true → (listed.setIfInBounds j true).getD k true = false := fun k hk => by
    have hjk : j ≠ k := fun e => by rw [← e, hjD] at hk; cases hk
    rw [getD_set_ne true hjk]
    exact hD k hk
   refine wpOp_mono (fun a' w' h3 => ⟨fun _ => h3.2.1 hjX, ih (listed.setIfInBounds j true) a' w' (h3.2.1 hjX) hD' hfree' (ready_mono hr (Ne.symm hji)) h3.1 ?_⟩) h2
   rw [Array.setIfInBounds_comm _ _ hji]
   exact h3.2.2
theorem wpAnyX_take {i : Nat} {oi : Oper} {v : Value} {fuel : Nat} {listed : Array Bool} {a : Act} {w : World} (hc : C w) (hi : ops[i]? = some oi) (hs : Region.noSelect ops = true) (hf : Region.free md ops listed i = true) (hr : (Region.ready md ops listed).contains i = true)
  (hd : depsOk md ops listed i (depOf md ops i) X = true)
  (hQ : ∀ c a w, Q (.panic c) (a.put oi.dst v) w → Q (.panic c) a w) (hy : YieldsC P ops C oi v a) (h : wpAnyX P md ops C X Q fuel (listed.setIfInBounds i true) (a.put oi.dst v) w) : wpAnyX P md ops C X Q (fuel + 1) listed a w := by
 unfold depsOk at hd
 simp only [Bool.and_eq_true] at hd
 obtain ⟨⟨h1, h2⟩, h3⟩ := hd
 refine wpAnyX_first (depOf md ops i) hi (Region.noSelect_spec hs) hQ (fun k ok hk hkD hki => ?_) (fun k hk => ?_) fuel listed a w hc (fun k hk => ?_) (Region.free_spec hi hf) (by simpa using hr) hy h
 ·have := List.all_eq_true.1 h2 k (List.contains_iff_mem.1 hkD)
  rw [hk] at this
  simp only [Bool.or_eq_true, beq_iff_eq, hki, false_or] at this
  obtain ⟨n, hn, he⟩ := Array.any_eq_true.1 this
  simp only [Bool.and_eq_true] at he
  exact ⟨_, Array.getElem_mem hn, he.1, he.2⟩
 ·have := List.all_eq_true.1 h3 k (List.contains_iff_mem.1 hk)
  simp only [Bool.and_eq_true, Bool.not_eq_true', beq_eq_false_iff_ne] at this
  exact this
 ·have := List.all_eq_true.1 h1 k (List.contains_iff_mem.1 hk)
  simpa using this
theorem wpAnyX_one {i : Nat} {fuel : Nat} {listed : Array Bool} {a : Act} {w : World} (hr : Region.ready md ops listed = [i]) (h : wpOp P ops Q i (fun a' w' => (X.contains i = false → C w') ∧ wpAnyX P md ops C X Q fuel (listed.setIfInBounds i true) a' w') a w) : wpAnyX P md ops C X Q (fuel + 1) listed a w :=
 ⟨fun h0 => absurd (hr ▸ h0) (by simp), fun j hj => by rw [hr, List.mem_singleton] at hj; subst hj; exact h⟩
theorem wpAnyX_done {listed : Array Bool} {a : Act} {w : World} (hr : Region.ready md ops listed = []) (h : Q .normal a w) : ∀ fuel, wpAnyX P md ops C X Q fuel listed a w
 | 0 => ⟨hr, h⟩
 | _ + 1 => ⟨fun _ => h, by rw [hr]; simp⟩
theorem wp_region_classX (X : List Nat) {id : Nat} {a : Act} {w : World} (hm : P.follows .mixedOrders = true) (h : wpAnyX P .any ops C X Q ops.size (Array.replicate ops.size false) a w.drew) : (Code.region id ops true).wp P Q a w :=
 wp_region_any hm (wpAny_of_X _ _ _ _ h)
end
end Go.Proofs.YtabmnkddmdffkaaGreatDoor.Arc
