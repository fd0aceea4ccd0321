/- Rules put behind rules, in a row of the call. -/
import Derived.Test.YtkmedgdpcifnoaaDoorEnt
import Derived.Test.YtkmedgdpcifnoaaDoorCo
import Derived.Test.YtkmedgdpcifnoaaDoorPs
import Derived.Test.YtkmedgdpcifnoaaDoorSu
namespace Go.Proofs.YtkmedgdpcifnoaaDoor
open Go.RowKit Go.Shelf

theorem rxC_one {w : World} {B : Nat} {x : Rx} (h : RxO w B x) : ∀ u ∈ rxC x, u.oneCell' = true := by
  obtain ⟨a0, c0, e0⟩ := own_len h.ts
  obtain ⟨a1, c1, e1⟩ := own_len h.ps
  obtain ⟨a2, c2, e2⟩ := own_len h.os
  obtain ⟨a3, c3, e3⟩ := own_len h.rc
  intro u hu
  simp only [rxC, ruC, e0, e1, e2, e3, List.mem_cons, List.not_mem_nil, or_false] at hu
  rcases hu with rfl | rfl | rfl | rfl | rfl | rfl | rfl | rfl | rfl | rfl | rfl <;> rfl
theorem own_cells {w : World} {B e size n g m cap : Nat} {xs : List Value} (h : w.ownsRow B e size (.slice (some ⟨g, 0, none⟩) m cap) n xs) (j : Nat) (u : Value) (hj : xs[j]? = some u) : w.cell? ((⟨g, 0, none⟩ : Addr).add j) = some u := by
  rcases h.2 with ⟨e1, _⟩ | ⟨g', cap', cur, e1, _, hg, _, _, _, h4⟩
  · cases e1
  · simp only [Value.slice.injEq, Option.some.injEq, Addr.mk.injEq] at e1
    obtain ⟨⟨rfl, _⟩, _, _⟩ := e1
    rw [Addr.add_lit, Nat.zero_add, Lib.cell_of_heap hg]
    rw [← h4] at hj
    have hlt : j < (cur.toList.take (n * size)).length := (List.getElem?_eq_some_iff.1 hj).1
    rw [List.length_take] at hlt
    rw [List.getElem?_take_of_lt (by omega)] at hj
    simpa using hj
theorem RxO.grow {w w' : World} {B B' n : Nat} {v : Value} {xs : List Value} {x : Rx} (h : RxO w B x) (hr : w.ownsRow B' 43 11 v n xs) (hg : w.grownBy w' v.ownBlock) : RxO w' B x := by
  have key : ∀ {size m : Nat} {u : Value} {ys : List Value}, w.ownsRow B 9 size u m ys → w'.ownsRow B 9 size u m ys := fun hu => own_kept hu fun k hk => hg.block k (own_lt hu k hk) (fun e => own_apart hu hr (by decide) hk e.symm)
  exact ⟨key h.ts, key h.ps, key h.os, key h.rc⟩
/-- rules behind rules -/
theorem app_rows {W : World} {B B2 g2 c2 : Nat} {v : Value} {L L2 : List Rx} (h1 : OwnR W B v L) (h2 : W.ownsRow B2 43 11 (.slice (some ⟨g2, 0, none⟩) L2.length c2) L2.length (flatR L2)) (hl2 : ∀ x ∈ L2, RxO W B x) (hl1 : L.length ≤ 1000000) (hl : L2.length ≤ 1000000) (hB : B ≤ W.heap.size) :
    ∃ v' w', (∀ ty : TypeId, (Builtin.append_ #[22, 22] ty #[v, .slice (some ⟨g2, 0, none⟩) L2.length c2]).run Tryd.prog W = .ok v' w') ∧ OwnR w' B v' (L ++ L2) ∧ W.grownBy w' v.ownBlock ∧ (v'.ownBlock = v.ownBlock ∨ v'.ownBlock = some W.heap.size) := by
  obtain ⟨inf, hi, hz0, hz1, hz2⟩ := info_parts info43
  have run := fun ty => run_append_own_at (w := W) B 22 ty 43 inf _ 11 152 Tryd.underlying22 hi hz0 hz1 hz2 rfl (by decide) v L.length (flatR L) h1.row ⟨g2, 0, none⟩ L2.length c2 (flatR L2) (flatR_len L2) (own_cells h2) (fun u hu => by
    obtain ⟨x, hx, hux⟩ := List.mem_flatMap.1 hu
    exact rxC_one (hl2 x hx) u hux) (by unfold maxLen; omega) (by omega) hB
  obtain ⟨v', w', hr, ho, hg, _, hloc⟩ := run 0
  refine ⟨v', w', fun ty => by rw [← hr]; rfl, ⟨?_, fun x hx => ?_⟩, hg, hloc⟩
  · rw [List.length_append, flatR_app]
    exact ho
  · rcases List.mem_append.1 hx with hx | hx
    · exact (h1.lists x hx).grow h1.row hg
    · exact (hl2 x hx).grow h1.row hg
theorem one_rule (W : World) (B : Nat) (x : Rx) (hB : B ≤ W.heap.size) : (W.alloc (.cells (rxC x).toArray 43)).ownsRow B 43 11 (.slice (some ⟨W.heap.size, 0, none⟩) 1 1) [x].length (flatR [x]) := by
  refine ⟨rfl, .inr ⟨W.heap.size, 1, _, rfl, hB, heap_alloc_new W _, Nat.le_refl _, by decide, rfl, ?_⟩⟩
  simp [flatR, rxC, ruC]
/- lengths -/
theorem part_fit (m : Nat) (all : List Bs) (t : Bs) : ∀ e : List Bs, (∀ s ∈ e, s.length ≤ m) → t.length ≤ m → (partP all t e).1.length ≤ m ∧ (partP all t e).2.1.length ≤ m
  | [], _, ht => ⟨ht, Nat.zero_le _⟩
  | s :: r, h, ht => by
    unfold partP
    split
    · exact ⟨h s (List.mem_cons_self ..), by simp only [List.length_drop]; omega⟩
    · exact part_fit m all t r (fun x hx => h x (List.mem_cons_of_mem _ hx)) ht
theorem told_fit (e : List Bs) (r : Ru) (he : ∀ s ∈ e, s.length ≤ 100000000) (h : FitR 100000000 r) : FitR 1000000000 (toldP e r) := by
  have h' : FitR 1000000000 r := ⟨h.lt, h.lp, h.lo, h.lr, fun x hx => by have := h.nt x hx; omega, fun x hx => by have := h.np x hx; omega, fun x hx => by have := h.no x hx; omega, fun x hx => by have := h.nr x hx; omega, by have := h.ns; omega, by have := h.na; omega⟩
  unfold toldP
  split
  · have ht : (r.ts.headD []).length ≤ 100000000 := by
      cases hts : r.ts with
      | nil => simp
      | cons x l => exact h.nt x (by rw [hts]; exact List.mem_cons_self ..)
    obtain ⟨p1, p2⟩ := part_fit 100000000 e (r.ts.headD []) e he ht
    generalize partP e (r.ts.headD []) e = q at p1 p2 ⊢
    unfold turnP
    split
    · have k1 : ∀ x ∈ [(37 : UInt8) :: q.2.1], x.length ≤ 1000000000 := fun x hx => by
        obtain rfl : x = 37 :: q.2.1 := by simpa using hx
        rw [List.length_cons]
        omega
      have k2 : ∀ x ∈ [(37 : UInt8) :: q.1], x.length ≤ 1000000000 := fun x hx => by
        obtain rfl : x = 37 :: q.1 := by simpa using hx
        rw [List.length_cons]
        omega
      exact ⟨by simp, by simp, h'.lo, h'.lr, k1, k2, h'.no, h'.nr, h'.ns, h'.na⟩
    · exact h'
  · exact h'
theorem suf_mem (m : Nat) : ∀ (l : List Ru) (s : List Bs), (∀ x ∈ s, x.length ≤ m) → (∀ r ∈ l, FitR m r) → ∀ x ∈ l.foldl sufS s, x.length ≤ m
  | [], s, hs, _ => hs
  | r :: l, s, hs, hl => by
    refine suf_mem m l (sufS s r) ?_ (fun y hy => hl y (List.mem_cons_of_mem _ hy))
    unfold sufS
    split
    · split
      · intro x hx; cases hx
      · intro x hx
        rcases List.mem_append.1 hx with hx | hx
        · exact hs x hx
        · exact (hl r (List.mem_cons_self ..)).np x hx
    · exact hs
theorem sufP_fit (l : List Ru) (hl : ∀ r ∈ l, FitR 100000000 r) : ∀ x ∈ sufP false l, x.length ≤ 100000000 := by
  refine suf_mem 100000000 l known ?_ hl
  intro x hx
  have : ∀ x ∈ known, x.length ≤ 100000000 := by decide
  exact this x hx
theorem psum_fit : ∀ (l : List Ru), (∀ r ∈ l, FitR 100000000 r) → psum l ≤ l.length * 100000
  | [], _ => by simp [psum]
  | r :: l, h => by
    have h1 := psum_fit l (fun y hy => h y (List.mem_cons_of_mem _ hy))
    have h2 := (h r (List.mem_cons_self ..)).lp
    unfold psum at *
    rw [List.map_cons, List.sum_cons, List.length_cons]
    omega
theorem blt_fit : ∀ r ∈ bltP, FitR 1000000000 r := by
  have key : ∀ r ∈ bltP, r.ts.length ≤ 100000 ∧ r.ps.length ≤ 100000 ∧ r.os.length ≤ 100000 ∧ r.rcp.length ≤ 100000 ∧ (∀ x ∈ r.ts, x.length ≤ 1000000000) ∧ (∀ x ∈ r.ps, x.length ≤ 1000000000) ∧ (∀ x ∈ r.os, x.length ≤ 1000000000) ∧ (∀ x ∈ r.rcp, x.length ≤ 1000000000) ∧ r.sta.length ≤ 1000000000 ∧ r.aga.length ≤ 1000000000 := by decide
  intro r hr
  obtain ⟨k0, k1, k2, k3, k4, k5, k6, k7, k8, k9⟩ := key r hr
  exact ⟨k0, k1, k2, k3, k4, k5, k6, k7, k8, k9⟩
theorem nms_fit (r t : Ru) (hr : FitR 1000000000 r) (ht : FitR 1000000000 t) : nmsP r t ≤ 500000 := by
  have := hr.lt
  have := ht.lt
  have := ht.lp
  have := ht.lo
  unfold nmsP
  omega
end Go.Proofs.YtkmedgdpcifnoaaDoor
