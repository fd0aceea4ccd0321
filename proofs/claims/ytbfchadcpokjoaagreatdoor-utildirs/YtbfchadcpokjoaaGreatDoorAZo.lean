/- A range over an iterator that may change cells of its own between two rounds, and whose rounds know what has come: the contract that such an iterator keeps, and the law for its caller. strings.SplitSeq over the path of a chain of directories: its iterator yields each name, and keeps what is left in a variable of its own. -/
import Derived.RangeFuncNested
import Derived.RangeFuncBound
import Derived.RangeFuncCalls
import Derived.RangeFuncLeaves
import Derived.RangeFuncBox
import Derived.Shelf.Abstract
import Derived.Shelf.RegionOpen
import Derived.WalkKit
import Derived.OwnWalkIn
import Derived.TacticsInMore
import Derived.LoopNIn
import Derived.LoopIn
import Derived.Test.YtbfchadcpokjoaaGreatDoorAWpl
import Derived.Test.YtbfchadcpokjoaaGreatDoorAZc
namespace Go.Proofs.YtbfchadcpokjoaaGreatDoor
open Go.RowKit

/-- what an iterator promises: Pf pre x says that x may come behind pre, Ab what the iterator itself may do to memory between two rounds, Kp what a round that goes on keeps -/
def SeqOf {α : Type} (F : Fence) (n : Nat) (P : Program) (g : Nat) (lb : Array Value) (encs : α → Array Value) (Ab Kp : World → World → Prop) (Pf : List α → α → Prop) (S Sp : List α → Prop) (w : World) : Prop :=
  ∀ (l : Nat) (J Jx : List α → World → Prop) (W : World), Below w.heap.size w W → (∀ pre A B, J pre A → Ab A B → J pre B) → (∀ pre A B, Jx pre A → Ab A B → Jx pre B) →
    (∀ pre x W1, Pf pre x → J pre W1 → YieldAt F (n - 1) P l (encs x) W1 fun e W' =>
      (e = .returned (.bool true) ∧ J (pre ++ [x]) W' ∧ Kp W1 W') ∨ (e = .returned (.bool false) ∧ Jx (pre ++ [x]) W')) →
    J [] W →
    CallsIn F n P g (#[.func (.yield l) #[] #[]] ++ lb) W fun e W' => (∃ v, e = .returned v) ∧ ((∃ ys, S ys ∧ J ys W') ∨ (∃ pre, Sp pre ∧ Jx pre W'))

/-- an object of the loop's own book-keeping -/
def isBook : Obj → Bool
  | .loop _ => true
  | .deferred _ => true
  | _ => false
/-- what is a loop's own lies as it lay -/
structure Kbk (W W' : World) : Prop where
  size : W.heap.size ≤ W'.heap.size
  same : ∀ (k : Nat) (o : Obj), W.heap[k]? = some o → isBook o = true → W'.heap[k]? = some o
theorem Kbk.refl (W : World) : Kbk W W := ⟨Nat.le_refl _, fun _ _ h _ => h⟩
theorem Kbk.trans {X Y Z : World} (h : Kbk X Y) (k : Kbk Y Z) : Kbk X Z := ⟨Nat.le_trans h.size k.size, fun i o hi ho => k.same i o (h.same i o hi ho) ho⟩
theorem Kbk.below {X Y : World} (h : Below X.heap.size X Y) : Kbk X Y := ⟨h.size, fun k _ hk _ => (h.block k (Array.getElem?_eq_some_iff.1 hk).1).trans hk⟩
theorem Kbk.setCell (W : World) (a : Addr) (v : Value) : Kbk W (W.setCell a v) := ⟨(KeepsOthers.setCell W a v).size, fun k o hk ho => (KeepsOthers.setCell W a v).same k o hk (by cases o <;> first | rfl | cases ho)⟩
/-- an invariant that such book-keeping leaves alone -/
def OwnB {β : Type} (B : Nat) (I : β → World → Prop) : Prop :=
  ∀ s W W' row, I s W → W.grownBy W' row → (∀ r, row = some r → B ≤ r ∧ ∃ o : Obj, W.heap[r]? = some o ∧ isBook o = true) → I s W'
theorem OwnB.putObj {β : Type} {B : Nat} {I : β → World → Prop} (h : OwnB B I) {s : β} {W : World} {l : Nat} {o : Obj} (o' : Obj) (hs : I s W) (hB : B ≤ l) (hl : W.heap[l]? = some o) (ho : isBook o = true) : I s (W.putObj l o') :=
  h s W _ (some l) hs (grownBy_putObj' W l o') (fun r e => by cases e; exact ⟨hB, o, hl, ho⟩)
theorem OwnB.alloc {β : Type} {B : Nat} {I : β → World → Prop} (h : OwnB B I) {s : β} {W : World} (o : Obj) (hs : I s W) : I s (W.alloc o) :=
  h s W _ none hs (World.grownBy_alloc W o none) (fun r e => by cases e)
def ownPostB {α : Type} (Kp : World → World → Prop) (I : List α → World → Prop) (Ix : Code → List α → World → Prop) (xs : List α) (W : World) : Exit → Act → World → Prop
  | .normal, _, W' => Kbk W W' ∧ Kp W W' ∧ I xs W'
  | .ret, _, W' => Kbk W W' ∧ Ix .ret xs W'
  | .exit id, _, W' => Kbk W W' ∧ Ix (.exit id) xs W'
  | .goto t, _, W' => Kbk W W' ∧ Ix (.goto t) xs W'
  | .panic _, _, _ => False
  | .outgrown, _, _ => False

variable {F : Fence} {n : Nat} {P : Program}

/-- the caller's law: I holds between two rounds, Ix c behind a round that has left by the jump c -/
theorem range_bk {α : Type} {g : Operand} {ps : Array Tmp} {assign body : Code} {Q : Exit → Act → World → Prop} {a : Act} {w : World}
    (hro : F.round = none) (h1 : 1 ≤ n) {gf : Nat} {lb : Array Value} (hg : a.eval g = .func (.func gf) #[] lb) (hFg : F.fn gf) (eg : ∀ args w, (callFunc gf args).run P w = .ok (.enter gf args) w)
    {encs : α → Array Value} {Ab Kp : World → World → Prop} {Pf : List α → α → Prop} {S Sp : List α → Prop} (hseq : SeqOf F (n - 1) P gf lb encs Ab Kp Pf S Sp w)
    (hKt : ∀ {A B C : World}, Kp A B → Kp B C → Kp A C) (hKb : ∀ (W : World) (l : Nat) (o' : Obj), w.heap.size ≤ l → Kp W (W.putObj l o')) (hAb : ∀ A B, Ab A B → Kbk A B) (hps : ∀ x, (encs x).size = ps.size)
    (I : List α → World → Prop) (Ix : Code → List α → World → Prop) (hI : OwnB w.heap.size I) (hIx : ∀ c, OwnB w.heap.size (Ix c)) (hIa : ∀ pre A B, I pre A → Ab A B → I pre B) (hIxa : ∀ c pre A B, Ix c pre A → Ab A B → Ix c pre B) (h0 : I [] w) (a₁ : α → Act)
    (hassign : ∀ (l : Nat) (x : α) (W : World) (K : Act → World → Prop), K (a₁ x) W →
      assign.wpIn (F.inRound l) (n - 1 - 1) P (Exit.then K (fun _ _ _ => False)) { tmps := (ps.zip (encs x)).foldl (fun t (p, v) => t.setIfInBounds p v) a.tmps, defers := [] } W)
    (hbody : ∀ (l : Nat) (pre : List α) (x : α) (W : World), Pf pre x → I pre W → body.wpIn (F.inRound l) (n - 1 - 1) P (ownPostB Kp I Ix (pre ++ [x]) W) (a₁ x) W)
    (hdone : ∀ (D : Nat) (xs : List α) (W : World), w.heap.size ≤ D → S xs → I xs W → W.heap[D]? = some (.deferred (some [])) → Q .normal { a with defers := { target := .collected D, args := #[] } :: a.defers } W)
    (hstop : ∀ (D : Nat) (c : Code) (pre : List α) (W : World), w.heap.size ≤ D → Sp pre → Ix c pre W → W.heap[D]? = some (.deferred (some [])) → c.wpIn F n P Q { a with defers := { target := .collected D, args := #[] } :: a.defers } W) :
    (Code.rangeFunc g ps assign body).wpIn F n P Q a w := by
  refine wpIn_rangeFunc ?_
  intro fn hfn
  rw [hro]
  obtain ⟨rc, hrc⟩ : ∃ rc : LoopState → Option Code → Loop, rc = fun st pe => { state := st, pending := pe, fn, tmps := a.tmps, params := ps, assign, body, defers := w.heap.size } := ⟨_, rfl⟩
  obtain ⟨V, hV⟩ : ∃ V, (w.alloc (.deferred (some []))).alloc (.loop (rc .ready none)) = V := ⟨_, rfl⟩
  have hLV : V.heap[w.heap.size + 1]? = some (.loop (rc .ready none)) := by
    have := World.alloc_heap_new (w.alloc (.deferred (some []))) (.loop (rc .ready none))
    rw [World.size_alloc, hV] at this
    exact this
  have hDV : V.heap[w.heap.size]? = some (.deferred (some [])) := by
    rw [← hV]; exact (Below.heap_alloc _ _ _ (by simp)).trans (World.alloc_heap_new w _)
  have hIV : I [] V := hV ▸ hI.alloc _ (hI.alloc _ h0)
  have hBV : Below w.heap.size w V := hV ▸ ((Below.refl _ w).alloc (Nat.le_refl _) _).alloc (by simp) _
  refine ⟨w.heap.size + 1, [{ target := .collected w.heap.size, args := #[] }], V, { target := .fn (.func gf) lb, args := #[.func (.yield (w.heap.size + 1)) #[] #[]] }, V, gf,
    #[.func (.yield (w.heap.size + 1)) #[] #[]] ++ lb, V, ?_, ?_, ?_, ?_, fun _ => h1, ?_⟩
  · rw [← hV, hrc]; exact run_enterLoop_outer _ _ _ _ _
  · simp only [resolve, hg]
    simp [go_sem]
  · intro f' hf'; simp [Target.leads] at hf'; subst hf'; exact hFg
  · simp [invoke, go_sem, eg]
  · have keep : ∀ {A B : World} {k : Nat} {o : Obj}, Kbk A B → A.heap[k]? = some o → isBook o = true → B.heap[k]? = some o := fun h ho hc => h.same _ _ ho hc
    refine (hseq (w.heap.size + 1)
      (fun pre W => I pre W ∧ W.heap[w.heap.size + 1]? = some (.loop (rc .ready none)) ∧ W.heap[w.heap.size]? = some (.deferred (some [])))
      (fun pre W => ∃ c, Ix c pre W ∧ W.heap[w.heap.size + 1]? = some (.loop (rc .done (some c))) ∧ W.heap[w.heap.size]? = some (.deferred (some [])))
      V hBV (fun pre A B hs hab => ⟨hIa pre A B hs.1 hab, keep (hAb A B hab) hs.2.1 rfl, keep (hAb A B hab) hs.2.2 rfl⟩)
      (fun pre A B hs hab => by
        obtain ⟨c, hc, hl, hk⟩ := hs
        exact ⟨c, hIxa c pre A B hc hab, keep (hAb A B hab) hl rfl, keep (hAb A B hab) hk rfl⟩)
      ?_ ⟨hIV, hLV, hDV⟩).mono ?_
    · rintro pre x W hpf ⟨hi, hl, hk⟩
      obtain ⟨busy, hbusy⟩ : ∃ busy : Loop, busy = { rc .ready none with state := .busy } := ⟨_, rfl⟩
      have hlt : w.heap.size + 1 < W.heap.size := (Array.getElem?_eq_some_iff.1 hl).1
      have hy := run_yield (P := P) (args := encs x) hl (by rw [hrc]; exact hps x)
      rw [hrc] at hy
      refine ⟨fn, _, assign, body, hy, roundIn_of_wpIn hfn (hassign _ x W _ ⟨_, run_beginRound hl (by rw [hrc]), ?_⟩)⟩
      rw [← hbusy]
      have hl2 : (W.putObj (w.heap.size + 1) (.loop busy)).heap[w.heap.size + 1]? = some (.loop busy) := World.putObj_heap_same hlt
      have hk2 : (W.putObj (w.heap.size + 1) (.loop busy)).heap[w.heap.size]? = some (.deferred (some [])) := (World.putObj_heap_other (by omega)).trans hk
      refine wpIn_mono (hbody _ pre x _ hpf (hI.putObj _ hi (by omega) hl rfl)) ?_
      have fin : ∀ (j : Option Code) (Z : World), Kbk (W.putObj (w.heap.size + 1) (.loop busy)) Z →
          (Instr.endRound (w.heap.size + 1) j).run P Z = .ok (.bool j.isNone) (Z.putObj (w.heap.size + 1) (.loop (rc (if j.isNone then .ready else .done) j))) ∧
          Z.heap[w.heap.size + 1]? = some (.loop busy) ∧
          (Z.putObj (w.heap.size + 1) (.loop (rc (if j.isNone then .ready else .done) j))).heap[w.heap.size + 1]? = some (.loop (rc (if j.isNone then .ready else .done) j)) ∧
          (Z.putObj (w.heap.size + 1) (.loop (rc (if j.isNone then .ready else .done) j))).heap[w.heap.size]? = some (.deferred (some [])) := fun j Z hz => by
        have hl3 := keep hz hl2 rfl
        have hk3 := keep hz hk2 rfl
        have he := run_endRound (P := P) j hl3
        rw [hbusy, hrc] at he
        rw [hrc]
        exact ⟨he, hl3, World.putObj_heap_same (Array.getElem?_eq_some_iff.1 hl3).1, (World.putObj_heap_other (by omega)).trans hk3⟩
      rintro e b Z hp
      cases e with
      | normal =>
        obtain ⟨r1, r2, r3, r4⟩ := fin none Z hp.1
        exact ⟨_, _, r1, .inl ⟨rfl, ⟨hI.putObj _ hp.2.2 (by omega) r2 rfl, r3, r4⟩, hKt (hKt (hKb _ _ _ (by omega)) hp.2.1) (hKb _ _ _ (by omega))⟩⟩
      | ret =>
        obtain ⟨r1, r2, r3, r4⟩ := fin (some .ret) Z hp.1
        exact ⟨_, _, r1, .inr ⟨rfl, .ret, (hIx _).putObj _ hp.2 (by omega) r2 rfl, r3, r4⟩⟩
      | exit id =>
        obtain ⟨r1, r2, r3, r4⟩ := fin (some (.exit id)) Z hp.1
        exact ⟨_, _, r1, .inr ⟨rfl, .exit id, (hIx _).putObj _ hp.2 (by omega) r2 rfl, r3, r4⟩⟩
      | goto t =>
        obtain ⟨r1, r2, r3, r4⟩ := fin (some (.goto t)) Z hp.1
        exact ⟨_, _, r1, .inr ⟨rfl, .goto t, (hIx _).putObj _ hp.2 (by omega) r2 rfl, r3, r4⟩⟩
      | panic ch => exact hp.elim
      | outgrown => exact hp.elim
    · rintro e Z ⟨⟨v, rfl⟩, (⟨xs, hS, hi, hl, hk⟩ | ⟨pre, hSp, c, hi, hl, hk⟩)⟩
      · have he := run_endLoop (P := P) hl (by rw [hrc]; simp)
        rw [hrc] at he
        exact ⟨none, _, he, hdone _ xs _ (Nat.le_refl _) hS (hI.putObj _ hi (by omega) hl rfl) ((World.putObj_heap_other (by omega)).trans hk)⟩
      · have he := run_endLoop (P := P) hl (by rw [hrc]; simp)
        rw [hrc] at he
        exact ⟨some c, _, he, hstop _ c pre _ (Nat.le_refl _) hSp ((hIx c).putObj _ hi (by omega) hl rfl) ((World.putObj_heap_other (by omega)).trans hk)⟩
end Go.Proofs.YtbfchadcpokjoaaGreatDoor
namespace Go.Proofs.YtbfchadcpokjoaaGreatDoor
open Go.RowKit Go.Shelf Go.Maps
attribute [local go_sem] Oper.semAt_some

theorem index_one (r : Nat) (hr : r = 0) : Lib.indexByte (dp (r + 1)) 47 = -1 := by subst hr; decide
theorem index_more (r : Nat) (hr : r ≤ 20) : Lib.indexByte (dp (r + 2)) 47 = 1 := by rw [dp_front r hr]; rfl
theorem sindex_any (s : ByteArray) (c : UInt8) (w : World) : Calls Tryz.prog 181 #[.string s, .string ⟨#[c]⟩] w fun e w' => e = .returned (.int .i64 (Lib.indexByte (tl s) c)) ∧ w' = w := by
  have q := Tryz.stringslite_Index_one s c w
  change Calls Tryz.prog 197 _ _ (fun e w' => e = .returned (.int .i64 (Lib.indexByte (tl s) c)) ∧ w' = w) at q
  generalize Lib.indexByte (tl s) c = z at q ⊢
  go_enter Tryz.func181, Tryz.ntmps181
  go_wp2_with fail
  refine q.mono ?_
  rintro e w' ⟨rfl, rfl⟩
  go_wp2
  go_ret
  exact ⟨rfl, rfl⟩
theorem splitSeq_any (s : ByteArray) (w : World) : Calls Tryz.prog 124 #[.string s, .string ⟨#[47]⟩] w fun e w' => e = .returned (.func (.func 179) #[] #[.pointer (some ⟨w.heap.size + 1, 0, none⟩), .pointer (some ⟨w.heap.size, 0, none⟩), .pointer (some ⟨w.heap.size + 1 + 1, 0, none⟩)]) ∧
    w' = ((w.alloc (.cells #[.string s] 9)).alloc (.cells #[.string ⟨#[47]⟩] 9)).alloc (.cells #[.int .i64 0] 3) := by
  have q : ∀ w, Calls Tryz.prog 155 #[.string s, .string ⟨#[47]⟩, .int .i64 0] w fun e w' => e = .returned (.func (.func 179) #[] #[.pointer (some ⟨w.heap.size + 1, 0, none⟩), .pointer (some ⟨w.heap.size, 0, none⟩), .pointer (some ⟨w.heap.size + 1 + 1, 0, none⟩)]) ∧
      w' = ((w.alloc (.cells #[.string s] 9)).alloc (.cells #[.string ⟨#[47]⟩] 9)).alloc (.cells #[.int .i64 0] 3) := fun w => by
    go_enter Tryz.func155, Tryz.ntmps155
    go_wp2
    go_ret
    exact ⟨rfl, rfl⟩
  go_enter Tryz.func124, Tryz.ntmps124
  go_wp2_with fail
  refine (q _).mono ?_
  rintro e w' ⟨rfl, rfl⟩
  go_wp2
  go_ret
  exact ⟨rfl, rfl⟩

/-- the iterator's three variables -/
structure Sbx (Bs : Nat) (t : List UInt8) (W : World) : Prop where
  str : Boxed W Bs 9 (.string (mk t))
  sep : Boxed W (Bs + 1) 9 (.string ⟨#[47]⟩)
  sav : Boxed W (Bs + 1 + 1) 3 (.int .i64 0)
/-- what the iterator does by itself, and what a round keeps of it -/
def SAb (Bs : Nat) (A B : World) : Prop := ∃ v, B = A.setCell ⟨Bs, 0, none⟩ (.string v)
def SKp (Bs : Nat) (W W' : World) : Prop := ∀ k, k = Bs ∨ k = Bs + 1 ∨ k = Bs + 1 + 1 → W'.heap[k]? = W.heap[k]?
theorem sbx_kept {Bs : Nat} {t : List UInt8} {W W' : World} (h : Sbx Bs t W) (k : SKp Bs W W') : Sbx Bs t W' :=
  ⟨(k _ (.inl rfl)).trans h.str, (k _ (.inr (.inl rfl))).trans h.sep, (k _ (.inr (.inr rfl))).trans h.sav⟩
theorem sbx_put {Bs : Nat} {t t' : List UInt8} {W : World} (h : Sbx Bs t W) : Sbx Bs t' (W.setCell ⟨Bs, 0, none⟩ (.string (mk t'))) :=
  ⟨h.str.set _, h.sep.kept (grownBy_setCell' W Bs _) (by simp), h.sav.kept (grownBy_setCell' W Bs _) (by simp; omega)⟩
def boxLen (Bs : Nat) (W : World) : Nat := match W.cell? ⟨Bs, 0, none⟩ with
  | some (.string x) => x.size
  | _ => 0
theorem boxLen_of {Bs : Nat} {t : List UInt8} {W : World} (h : Sbx Bs t W) : boxLen Bs W = t.length := by
  unfold boxLen; rw [h.str.cell]; exact mk_size t

set_option maxRecDepth 100000 in
set_option maxHeartbeats 1000000 in
theorem split1_in (n : Nat) (hn : 1 ≤ n) (l m Bs : Nat) (hm1 : 1 ≤ m) (hm : m ≤ 20) (J Jx : List Unit → World → Prop) (hJ : ∀ pre A B, J pre A → SAb Bs A B → J pre B)
    (hY : ∀ pre x W, pre.length < m → J pre W → YieldAt Fence.wide (n - 1) Tryz.prog l #[.string ⟨#[100]⟩] W fun e W' =>
      (e = .returned (.bool true) ∧ J (pre ++ [x]) W' ∧ SKp Bs W W') ∨ (e = .returned (.bool false) ∧ Jx (pre ++ [x]) W'))
    (W : World) (hB : Sbx Bs (dp m) W) (h0 : J [] W) :
    CallsIn Fence.wide n Tryz.prog 179 #[.func (.yield l) #[] #[], .pointer (some ⟨Bs + 1, 0, none⟩), .pointer (some ⟨Bs, 0, none⟩), .pointer (some ⟨Bs + 1 + 1, 0, none⟩)] W fun e W' => (∃ v, e = .returned v) ∧
      ((∃ ys : List Unit, ys.length = m ∧ J ys W') ∨ (∃ pre, True ∧ Jx pre W')) := by
  have HY := hide' hY
  have HJA := hide' hJ
  have hc0 := hB.sep.cell
  clear hY hJ
  refine callsIn_of_wp Tryz.func179 rfl trivial ?_ rfl
  simp only [Tryz.ntmps179, List.size_toArray, List.length_cons, List.length_nil, Nat.reduceAdd, Nat.reduceSub, Array.replicate_succ, Array.replicate_zero, List.push_toArray, List.append_toArray, List.nil_append, List.cons_append]
  gi_wp2
  gi_loopw [7] (fun p wr => ∃ (r : Nat) (pre : List Unit), r + 1 + pre.length = m ∧ Sbx Bs (dp (r + 1)) wr ∧ J pre wr)
    (fun _ wr => boxLen Bs wr)
  case atStart =>
    obtain ⟨r, rfl⟩ : ∃ r, m = r + 1 := ⟨m - 1, by omega⟩
    exact ⟨r, [], by simp, hB, h0⟩
  case round =>
    obtain ⟨r, pre, hrm, hS, hJs⟩ := hrel
    have c1 := hS.str.cell
    have c2 := hS.sep.cell
    have c3 := hS.sav.cell
    have ks := fun w => sindex_any (mk (dp (r + 1))) 47 w
    rw [tl_mk] at ks
    have hdl := dp_len (r + 1)
    cases r with
    | zero =>
      have e1 : dp (0 + 1) = [100] := rfl
      rw [index_one 0 rfl] at ks
      rw [e1] at ks c1
      have e2 : mk [100] = ⟨#[100]⟩ := rfl
      rw [e2] at ks c1
      obtain ⟨fn, tmps, assign, body, hy, hRd⟩ := HY.out pre () wr (by omega) hJs
      gi_wp2_with (refine ⟨trivial, ?_⟩; gi_at_call 181; refine (callsIn_wide.2 (ks _)).mono ?_; rintro e w' ⟨rfl, rfl⟩)
      refine hRd.mono ?_
      rintro e W3 (⟨rfl, hJ3, _⟩ | ⟨rfl, hJx3⟩)
      · clear hy hRd
        gi_wp2
        go_end0
        exact ⟨⟨_, rfl⟩, .inl ⟨_, by simp; omega, hJ3⟩⟩
      · clear hy hRd
        gi_wp2
        go_end0
        exact ⟨⟨_, rfl⟩, .inr ⟨_, trivial, hJx3⟩⟩
    | succ r =>
      obtain ⟨S, hSb⟩ : ∃ S, S = mk (dp (r + 1 + 1)) := ⟨_, rfl⟩
      have hfr := dp_front r (by omega)
      rw [index_more r (by omega)] at ks
      rw [← hSb] at ks c1
      have hss1 : 2 ≤ S.size := by rw [hSb, mk_size, hfr]; simp
      have hss2 : S.size ≤ 1000 := by rw [hSb, mk_size]; omega
      have x1 : S.extract 0 1 = ⟨#[100]⟩ := by rw [hSb, hfr]; exact tl_inj _ _ (by rw [ext_take, tl_mk, tl_mk]; rfl)
      have x2 : S.extract 2 S.size = mk (dp (r + 1)) := by rw [hSb, hfr]; exact tl_inj _ _ (by rw [ext_drop, tl_mk, tl_mk]; rfl)
      obtain ⟨fn, tmps, assign, body, hy, hRd⟩ := HY.out pre () wr (by omega) hJs
      have HSB := hide' hSb
      have HFR := hide' hfr
      clear hSb hfr
      gi_wp2_with (refine ⟨trivial, ?_⟩; gi_at_call 181; refine (callsIn_wide.2 (ks _)).mono ?_; rintro e w' ⟨rfl, rfl⟩)
      refine hRd.mono ?_
      rintro e W3 (⟨rfl, hJ3, hk3⟩ | ⟨rfl, hJx3⟩)
      · have hS3 := sbx_kept hS hk3
        have d1 := hS3.str.cell
        have d2 := hS3.sep.cell
        have d3 := hS3.str.frozen
        rw [← HSB.out] at d1
        have hS4 := sbx_put (t' := dp (r + 1)) hS3
        have hJ4 := HJA.out _ _ _ hJ3 ⟨mk (dp (r + 1)), rfl⟩
        have hb1 := boxLen_of hS4
        have hb0 := boxLen_of hS
        have HB := hide' hb1
        have HB0 := hide' hb0
        clear hy hRd ks hb1 hb0 hS c1 c2 c3 hk3
        gi_wp2
        refine ⟨⟨r, pre ++ [()], by simp; omega, hS4, hJ4⟩, ?_⟩
        rw [HB.out, HB0.out, HFR.out]
        simp
        omega
      · clear hy hRd
        gi_wp2
        refine bodyPost_ret (results_none rfl _ _ _) rfl ?_
        exact ⟨⟨_, rfl⟩, .inr ⟨_, trivial, hJx3⟩⟩

theorem split_seq (n : Nat) (hn : 1 ≤ n) (m Bs : Nat) (hm1 : 1 ≤ m) (hm : m ≤ 20) (w : World) (hB : Sbx Bs (dp m) w) :
    SeqOf Fence.wide n Tryz.prog 179 #[.pointer (some ⟨Bs + 1, 0, none⟩), .pointer (some ⟨Bs, 0, none⟩), .pointer (some ⟨Bs + 1 + 1, 0, none⟩)] (fun _ : Unit => #[Value.string ⟨#[100]⟩]) (SAb Bs) (SKp Bs) (fun pre _ => pre.length < m) (fun ys => ys.length = m) (fun _ => True) w := fun l J Jx W hW hJ _ hY h0 =>
  split1_in n hn l m Bs hm1 hm J Jx hJ hY W ⟨(hW.block _ hB.str.lt).trans hB.str, (hW.block _ hB.sep.lt).trans hB.sep, (hW.block _ hB.sav.lt).trans hB.sav⟩ h0
end Go.Proofs.YtbfchadcpokjoaaGreatDoor
