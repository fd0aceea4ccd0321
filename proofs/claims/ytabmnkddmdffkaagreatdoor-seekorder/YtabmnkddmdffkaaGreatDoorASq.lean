/- A range over an iterator that hands on what other iterators yield: the contract that such an iterator keeps, and the law for its caller. -/
import Derived.RangeFuncNested
import Derived.RangeFuncBound
import Derived.RangeFuncCalls
import Derived.RangeFuncLeaves
import Derived.RangeFuncBox
import Derived.Shelf.Abstract
import Derived.Shelf.RegionOpen
import Derived.WalkKit
import Derived.OwnWalkIn
import Derived.TacticsInMore
import Derived.LoopNIn
import Derived.LoopIn
namespace Go.Proofs.YtabmnkddmdffkaaGreatDoor.Sk
open Go.RowKit

/-- an object of a loop's book-keeping -/
def isBook : Obj → Bool
  | .loop _ => true
  | .deferred _ => true
  | _ => false
/-- what a round leaves to the iterator that goes on: all blocks from n on, and of the elder ones all but the loops' book-keeping -/
structure Kp (n : Nat) (A B : World) : Prop where
  size : A.heap.size ≤ B.heap.size
  up : ∀ k, n ≤ k → k < A.heap.size → B.heap[k]? = A.heap[k]?
  low : ∀ (k : Nat) (o : Obj), A.heap[k]? = some o → isBook o = false → B.heap[k]? = some o
/-- .. and to one that is to end -/
structure Kx (n : Nat) (A B : World) : Prop where
  size : A.heap.size ≤ B.heap.size
  up : ∀ k, n ≤ k → k < A.heap.size → B.heap[k]? = A.heap[k]?
theorem Kp.x {n : Nat} {A B : World} (h : Kp n A B) : Kx n A B := ⟨h.size, h.up⟩
theorem Kp.refl (n : Nat) (A : World) : Kp n A A := ⟨Nat.le_refl _, fun _ _ _ => rfl, fun _ _ h _ => h⟩
theorem Kp.trans {n : Nat} {A B C : World} (h : Kp n A B) (k : Kp n B C) : Kp n A C :=
  ⟨Nat.le_trans h.size k.size, fun i hi hl => (k.up i hi (Nat.lt_of_lt_of_le hl h.size)).trans (h.up i hi hl), fun i o hi ho => k.low i o (h.low i o hi ho) ho⟩
theorem Kx.trans {n : Nat} {A B C : World} (h : Kx n A B) (k : Kx n B C) : Kx n A C :=
  ⟨Nat.le_trans h.size k.size, fun i hi hl => (k.up i hi (Nat.lt_of_lt_of_le hl h.size)).trans (h.up i hi hl)⟩
theorem Kp.mono {n m : Nat} {A B : World} (h : Kp n A B) (hm : n ≤ m) : Kp m A B := ⟨h.size, fun k hk hl => h.up k (Nat.le_trans hm hk) hl, h.low⟩
theorem Kx.mono {n m : Nat} {A B : World} (h : Kx n A B) (hm : n ≤ m) : Kx m A B := ⟨h.size, fun k hk hl => h.up k (Nat.le_trans hm hk) hl⟩
theorem Kp.below {n : Nat} {A B : World} (h : Below A.heap.size A B) : Kp n A B :=
  ⟨h.size, fun k _ hl => h.block k hl, fun k _ hk _ => (h.block k (Array.getElem?_eq_some_iff.1 hk).1).trans hk⟩

/-- what an iterator promises: Pf pre x says that x may come behind pre -/
def SeqL {α : Type} (n : Nat) (P : Program) (g : Nat) (lb : Array Value) (encs : α → Array Value) (Pf : List α → α → Prop) (S Sp : List α → Prop) (w : World) : Prop :=
  ∀ (l : Nat) (J Jx : List α → World → Prop) (W : World), Below w.heap.size w W → (∀ pre A B, J pre A → Below W.heap.size A B → J pre B) → (∀ pre A B, Jx pre A → Below W.heap.size A B → Jx pre B) →
    (∀ pre x W1, Pf pre x → W.heap.size ≤ W1.heap.size → J pre W1 → YieldAt Fence.wide (n - 1) P l (encs x) W1 fun e W' =>
      (e = .returned (.bool true) ∧ J (pre ++ [x]) W' ∧ Kp W.heap.size W1 W') ∨ (e = .returned (.bool false) ∧ Jx (pre ++ [x]) W' ∧ Kx W.heap.size W1 W')) →
    J [] W →
    CallsIn Fence.wide n P g (#[.func (.yield l) #[] #[]] ++ lb) W fun e W' => (∃ v, e = .returned v) ∧ ((∃ ys, S ys ∧ J ys W') ∨ (∃ pre, Sp pre ∧ Jx pre W'))

def ownPostL {α : Type} (n : Nat) (I : List α → World → Prop) (Ix : Code → List α → World → Prop) (xs : List α) (W : World) : Exit → Act → World → Prop
  | .normal, _, W' => Kp n W W' ∧ I xs W'
  | .ret, _, W' => Kx n W W' ∧ Ix .ret xs W'
  | .exit id, _, W' => Kx n W W' ∧ Ix (.exit id) xs W'
  | .goto t, _, W' => Kx n W W' ∧ Ix (.goto t) xs W'
  | .panic _, _, _ => False
  | .outgrown, _, _ => False

variable {n : Nat} {P : Program}
theorem below_putObj {N : Nat} {A : World} {l : Nat} (o : Obj) (h : N ≤ l) (hl : l < A.heap.size) : Below N A (A.putObj l o) :=
  (Below.refl N A).grown (grownBy_putObj' A l o) (by omega) (fun k e => by cases e; omega)

/-- the caller's law: I holds between two rounds, Ix c behind a round that has left by the jump c; both speak of what lay there ahead of the loop -/
theorem range_l {α : Type} {g : Operand} {ps : Array Tmp} {assign body : Code} {Q : Exit → Act → World → Prop} {a : Act} {w : World}
    (h1 : 1 ≤ n) {gf : Nat} {lb : Array Value} (hg : a.eval g = .func (.func gf) #[] lb) (eg : ∀ args w, (callFunc gf args).run P w = .ok (.enter gf args) w)
    {encs : α → Array Value} {Pf : List α → α → Prop} {S Sp : List α → Prop} (hseq : SeqL (n - 1) P gf lb encs Pf S Sp w) (hps : ∀ x, (encs x).size = ps.size)
    (I : List α → World → Prop) (Ix : Code → List α → World → Prop) (hI : ∀ pre A B, I pre A → Below w.heap.size A B → I pre B) (hIx : ∀ c pre A B, Ix c pre A → Below w.heap.size A B → Ix c pre B) (h0 : I [] w) (a₁ : α → Act)
    (hassign : ∀ (l : Nat) (x : α) (W : World) (K : Act → World → Prop), K (a₁ x) W →
      assign.wpIn (Fence.wide.inRound l) (n - 1 - 1) P (Exit.then K (fun _ _ _ => False)) { tmps := (ps.zip (encs x)).foldl (fun t (p, v) => t.setIfInBounds p v) a.tmps, defers := [] } W)
    (hbody : ∀ (l : Nat) (pre : List α) (x : α) (W : World), Pf pre x → w.heap.size + 2 ≤ W.heap.size → I pre W → body.wpIn (Fence.wide.inRound l) (n - 1 - 1) P (ownPostL w.heap.size I Ix (pre ++ [x]) W) (a₁ x) W)
    (hdone : ∀ (D : Nat) (xs : List α) (W : World), w.heap.size ≤ D → S xs → I xs W → W.heap[D]? = some (.deferred (some [])) → Q .normal { a with defers := { target := .collected D, args := #[] } :: a.defers } W)
    (hstop : ∀ (D : Nat) (c : Code) (pre : List α) (W : World), w.heap.size ≤ D → Sp pre → Ix c pre W → W.heap[D]? = some (.deferred (some [])) → c.wpIn Fence.wide n P Q { a with defers := { target := .collected D, args := #[] } :: a.defers } W) :
    (Code.rangeFunc g ps assign body).wpIn Fence.wide n P Q a w := by
  refine wpIn_rangeFunc ?_
  intro fn hfn
  rw [show Fence.wide.round = none from rfl]
  obtain ⟨rc, hrc⟩ : ∃ rc : LoopState → Option Code → Loop, rc = fun st pe => { state := st, pending := pe, fn, tmps := a.tmps, params := ps, assign, body, defers := w.heap.size } := ⟨_, rfl⟩
  obtain ⟨V, hV⟩ : ∃ V, (w.alloc (.deferred (some []))).alloc (.loop (rc .ready none)) = V := ⟨_, rfl⟩
  have hsV : V.heap.size = w.heap.size + 2 := by rw [← hV]; simp
  have hLV : V.heap[w.heap.size + 1]? = some (.loop (rc .ready none)) := by
    have := World.alloc_heap_new (w.alloc (.deferred (some []))) (.loop (rc .ready none))
    rw [World.size_alloc, hV] at this
    exact this
  have hDV : V.heap[w.heap.size]? = some (.deferred (some [])) := by
    rw [← hV]; exact (Below.heap_alloc _ _ _ (by simp)).trans (World.alloc_heap_new w _)
  have hBV : Below w.heap.size w V := hV ▸ ((Below.refl _ w).alloc (Nat.le_refl _) _).alloc (by simp) _
  have hIV : I [] V := hI _ _ _ h0 hBV
  refine ⟨w.heap.size + 1, [{ target := .collected w.heap.size, args := #[] }], V, { target := .fn (.func gf) lb, args := #[.func (.yield (w.heap.size + 1)) #[] #[]] }, V, gf,
    #[.func (.yield (w.heap.size + 1)) #[] #[]] ++ lb, V, ?_, ?_, ?_, ?_, fun _ => h1, ?_⟩
  · rw [← hV, hrc]; exact run_enterLoop_outer _ _ _ _ _
  · simp only [resolve, hg]
    simp [go_sem]
  · intro f' hf'; trivial
  · simp [invoke, go_sem, eg]
  · refine (hseq (w.heap.size + 1)
      (fun pre W => I pre W ∧ W.heap[w.heap.size + 1]? = some (.loop (rc .ready none)) ∧ W.heap[w.heap.size]? = some (.deferred (some [])))
      (fun pre W => ∃ c, Ix c pre W ∧ W.heap[w.heap.size + 1]? = some (.loop (rc .done (some c))) ∧ W.heap[w.heap.size]? = some (.deferred (some [])))
      V hBV (fun pre A B hs hab => ⟨hI pre A B hs.1 (hab.mono (by omega)), (hab.block _ (by omega)).trans hs.2.1, (hab.block _ (by omega)).trans hs.2.2⟩)
      (fun pre A B hs hab => by
        obtain ⟨c, hc, hl, hk⟩ := hs
        exact ⟨c, hIx c pre A B hc (hab.mono (by omega)), (hab.block _ (by omega)).trans hl, (hab.block _ (by omega)).trans hk⟩)
      ?_ ⟨hIV, hLV, hDV⟩).mono ?_
    · rintro pre x W hpf hsz ⟨hi, hl, hk⟩
      obtain ⟨busy, hbusy⟩ : ∃ busy : Loop, busy = { rc .ready none with state := .busy } := ⟨_, rfl⟩
      have hlt : w.heap.size + 1 < W.heap.size := (Array.getElem?_eq_some_iff.1 hl).1
      have hy := run_yield (P := P) (args := encs x) hl (by rw [hrc]; exact hps x)
      rw [hrc] at hy
      refine ⟨fn, _, assign, body, hy, roundIn_of_wpIn hfn (hassign _ x W _ ⟨_, run_beginRound hl (by rw [hrc]), ?_⟩)⟩
      rw [← hbusy]
      have hl2 : (W.putObj (w.heap.size + 1) (.loop busy)).heap[w.heap.size + 1]? = some (.loop busy) := World.putObj_heap_same hlt
      have hk2 : (W.putObj (w.heap.size + 1) (.loop busy)).heap[w.heap.size]? = some (.deferred (some [])) := (World.putObj_heap_other (by omega)).trans hk
      have hs2 : (W.putObj (w.heap.size + 1) (.loop busy)).heap.size = W.heap.size := by simp [World.putObj]
      refine wpIn_mono (hbody _ pre x _ hpf (by rw [hs2]; omega) (hI _ _ _ hi (below_putObj _ (by omega) hlt))) ?_
      have fin : ∀ (j : Option Code) (Z : World), Kx w.heap.size (W.putObj (w.heap.size + 1) (.loop busy)) Z →
          (Instr.endRound (w.heap.size + 1) j).run P Z = .ok (.bool j.isNone) (Z.putObj (w.heap.size + 1) (.loop (rc (if j.isNone then .ready else .done) j))) ∧
          w.heap.size + 1 < Z.heap.size ∧
          (Z.putObj (w.heap.size + 1) (.loop (rc (if j.isNone then .ready else .done) j))).heap[w.heap.size + 1]? = some (.loop (rc (if j.isNone then .ready else .done) j)) ∧
          (Z.putObj (w.heap.size + 1) (.loop (rc (if j.isNone then .ready else .done) j))).heap[w.heap.size]? = some (.deferred (some [])) ∧
          Kx (w.heap.size + 2) W (Z.putObj (w.heap.size + 1) (.loop (rc (if j.isNone then .ready else .done) j))) := fun j Z hz => by
        have hl3 := (hz.up _ (by omega) (by rw [hs2]; exact hlt)).trans hl2
        have hk3 := (hz.up _ (Nat.le_refl _) (by rw [hs2]; omega)).trans hk2
        have he := run_endRound (P := P) j hl3
        rw [hbusy, hrc] at he
        rw [hrc]
        refine ⟨he, (Array.getElem?_eq_some_iff.1 hl3).1, World.putObj_heap_same (Array.getElem?_eq_some_iff.1 hl3).1, (World.putObj_heap_other (by omega)).trans hk3, ?_, ?_⟩
        · have := hz.size; rw [hs2] at this; simpa [World.putObj] using this
        · intro k hk hkl
          rw [World.putObj_heap_other (by omega), hz.up k (by omega) (by rw [hs2]; exact hkl), World.putObj_heap_other (by omega)]
      rintro e b Z hp
      cases e with
      | normal =>
        obtain ⟨r1, r2, r3, r4, r5⟩ := fin none Z hp.1.x
        refine ⟨_, _, r1, .inl ⟨rfl, ⟨hI _ _ _ hp.2 (below_putObj _ (by omega) r2), r3, r4⟩, ?_⟩⟩
        rw [hsV]
        refine ⟨r5.size, r5.up, fun k o hk ho => ?_⟩
        have hne : k ≠ w.heap.size + 1 := fun e => by rw [e, hl] at hk; cases hk; cases ho
        rw [World.putObj_heap_other (by omega)]
        exact hp.1.low k o (by rw [World.putObj_heap_other (by omega)]; exact hk) ho
      | ret =>
        obtain ⟨r1, r2, r3, r4, r5⟩ := fin (some .ret) Z hp.1
        exact ⟨_, _, r1, .inr ⟨rfl, ⟨.ret, hIx _ _ _ _ hp.2 (below_putObj _ (by omega) r2), r3, r4⟩, hsV ▸ r5⟩⟩
      | exit id =>
        obtain ⟨r1, r2, r3, r4, r5⟩ := fin (some (.exit id)) Z hp.1
        exact ⟨_, _, r1, .inr ⟨rfl, ⟨.exit id, hIx _ _ _ _ hp.2 (below_putObj _ (by omega) r2), r3, r4⟩, hsV ▸ r5⟩⟩
      | goto t =>
        obtain ⟨r1, r2, r3, r4, r5⟩ := fin (some (.goto t)) Z hp.1
        exact ⟨_, _, r1, .inr ⟨rfl, ⟨.goto t, hIx _ _ _ _ hp.2 (below_putObj _ (by omega) r2), r3, r4⟩, hsV ▸ r5⟩⟩
      | panic ch => exact hp.elim
      | outgrown => exact hp.elim
    · rintro e Z ⟨⟨v, rfl⟩, (⟨xs, hS, hi, hl, hk⟩ | ⟨pre, hSp, c, hi, hl, hk⟩)⟩
      · have he := run_endLoop (P := P) hl (by rw [hrc]; simp)
        rw [hrc] at he
        have hlz := (Array.getElem?_eq_some_iff.1 hl).1
        exact ⟨none, _, he, hdone _ xs _ (Nat.le_refl _) hS (hI _ _ _ hi (below_putObj _ (by omega) hlz)) ((World.putObj_heap_other (by omega)).trans hk)⟩
      · have he := run_endLoop (P := P) hl (by rw [hrc]; simp)
        rw [hrc] at he
        have hlz := (Array.getElem?_eq_some_iff.1 hl).1
        exact ⟨some c, _, he, hstop _ c pre _ (Nat.le_refl _) hSp (hIx _ _ _ _ hi (below_putObj _ (by omega) hlz)) ((World.putObj_heap_other (by omega)).trans hk)⟩
end Go.Proofs.YtabmnkddmdffkaaGreatDoor.Sk
