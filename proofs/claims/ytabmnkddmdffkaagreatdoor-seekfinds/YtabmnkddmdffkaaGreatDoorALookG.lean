import Derived.Test.YtabmnkddmdffkaaGreatDoorAMemG
import Derived.Deep.RegionWith
import Derived.Defers
import Derived.Deep.QuietTactic
import Derived.RangeFuncNested
import Derived.RangeFuncBound
import Derived.RangeFuncCalls
import Derived.RangeFuncLeaves
import Derived.RangeFuncBox
import Derived.Shelf.Abstract
import Derived.Shelf.RegionOpen
import Derived.OwnWalkIn
import Derived.TacticsInMore
import Derived.LoopNIn
import Derived.LoopIn
import Derived.Test.YtabmnkddmdffkaaGreatDoorACleanG
import Derived.Laws.Runes
import Derived.BigQuiet
namespace Go.Proofs.YtabmnkddmdffkaaGreatDoor
open Go.RowKit Go.Maps
def ptrElem : Value → Option (DataW Unit × List MemPlace)
 | .pointer none => some (.nil, [])
 | .pointer (some ⟨b, 0, none⟩) => some (.lit (.int .u64 b), [])
 | _ => none
theorem ptrElem_lit {v : Value} {b : Nat} {ps : List MemPlace} (h : ptrElem v = some (.lit (.int .u64 b), ps)) : v = .pointer (some ⟨b, 0, none⟩) := by
 unfold ptrElem at h
 split at h
 ·cases h
 ·rename_i b'
  simp only [Option.some.injEq, Prod.mk.injEq, DataW.lit.injEq, Lit.int.injEq, true_and] at h
  obtain ⟨h, _⟩ := h
  have : b' = b := by omega
  rw [this]
 ·cases h
theorem ptrElem_nil {v : Value} {ps : List MemPlace} (h : ptrElem v = some (.nil, ps)) : v = .pointer none := by
 unfold ptrElem at h
 split at h
 ·rfl
 ·simp at h
 ·cases h
structure En where
 blk : Nat
 dv : Value
 nd : Nd
abbrev Ents := List (Bs × En)
def blks (L : Ents) : List (Bs × Nat) := L.map fun e => (e.1, e.2.blk)
def nds (L : Ents) : List (Bs × Nd) := L.map fun e => (e.1, e.2.nd)
def NodeAt (w : World) (e : En) : Prop := w.heap[e.blk]? = some (.cells #[.bool e.nd.dir, .int .i64 e.nd.time, e.dv] 99 (0, 0))
def Fb (w : World) (A M : Nat) (wt clk rm : Int) : Prop := w.heap[A]? = some (.cells #[.map (some M), .int .i64 wt, .int .i64 clk, .int .i64 rm] 94 (0, 0))
def Mp (w : World) (M : Nat) (L : Ents) : Prop := w.ownsMap Tryz.prog 9 ptrElem M L.length (datum (blks L))
theorem Fb.lt {w : World} {A M : Nat} {wt clk rm : Int} (h : Fb w A M wt clk rm) : A < w.heap.size := lt_of_block h
theorem Fb.c0 {w : World} {A M : Nat} {wt clk rm : Int} (h : Fb w A M wt clk rm) : w.cell? ⟨A, 0, none⟩ = some (.map (some M)) := by unfold Fb at h; rw [Lib.cell_of_heap h]; rfl
theorem Fb.c1 {w : World} {A M : Nat} {wt clk rm : Int} (h : Fb w A M wt clk rm) : w.cell? ⟨A, 1, none⟩ = some (.int .i64 wt) := by unfold Fb at h; rw [Lib.cell_of_heap h]; rfl
theorem Fb.c2 {w : World} {A M : Nat} {wt clk rm : Int} (h : Fb w A M wt clk rm) : w.cell? ⟨A, 2, none⟩ = some (.int .i64 clk) := by unfold Fb at h; rw [Lib.cell_of_heap h]; rfl
theorem Fb.c3 {w : World} {A M : Nat} {wt clk rm : Int} (h : Fb w A M wt clk rm) : w.cell? ⟨A, 3, none⟩ = some (.int .i64 rm) := by unfold Fb at h; rw [Lib.cell_of_heap h]; rfl
theorem Fb.fz {w : World} {A M : Nat} {wt clk rm : Int} (h : Fb w A M wt clk rm) (j : Nat) : w.frozen? ⟨A, j, none⟩ = false := Lib.frozen_of_heap h j
theorem set_row {w : World} {A : Nat} {cs : Array Value} {T : TypeId} (h : w.heap[A]? = some (.cells cs T (0, 0))) (j : Nat) (v : Value) :
  (w.setCell ⟨A, j, none⟩ v).heap[A]? = some (.cells (cs.setIfInBounds j v) T (0, 0)) := by
 have hlt := lt_of_block h
 have h' : w.heap[A] = .cells cs T (0, 0) := by simpa [Array.getElem?_eq_getElem hlt] using h
 show (w.heap.modify A _)[A]? = _
 rw [Array.getElem?_eq_getElem (by simpa using hlt), Array.getElem_modify_self, h']
 rfl
theorem Fb.set1 {w : World} {A M : Nat} {wt clk rm : Int} (h : Fb w A M wt clk rm) (v : Int) : Fb (w.setCell ⟨A, 1, none⟩ (.int .i64 v)) A M v clk rm := set_row h 1 _
theorem NodeAt.lt {w : World} {e : En} (h : NodeAt w e) : e.blk < w.heap.size := lt_of_block h
theorem NodeAt.c0 {w : World} {e : En} (h : NodeAt w e) : w.cell? ⟨e.blk, 0, none⟩ = some (.bool e.nd.dir) := by unfold NodeAt at h; rw [Lib.cell_of_heap h]; rfl
theorem NodeAt.c1 {w : World} {e : En} (h : NodeAt w e) : w.cell? ⟨e.blk, 1, none⟩ = some (.int .i64 e.nd.time) := by unfold NodeAt at h; rw [Lib.cell_of_heap h]; rfl
theorem NodeAt.c2 {w : World} {e : En} (h : NodeAt w e) : w.cell? ⟨e.blk, 2, none⟩ = some e.dv := by unfold NodeAt at h; rw [Lib.cell_of_heap h]; rfl
theorem key9 : Keyed Tryz.prog 9 := string_keyed Tryz.underlying9
theorem zero74 (w : World) : (zeroValue 97).run Tryz.prog w = .ok (.pointer none) w := by kernel_rfl
theorem keyOf9 (p : Bs) (h : p.length ≤ maxLen) : keyOf Tryz.prog 9 (.string (mk p)) = some (.string p) := by
 have := Go.WideMaps.keyOf_string_mk (P := Tryz.prog) Tryz.underlying9 (s := mk p) (by rw [mk_size]; exact h)
 simpa using this
def ptrOf : Option Nat → Value
 | none => .pointer none
 | some b => .pointer (some ⟨b, 0, none⟩)
theorem blks_fnd (L : Ents) (p : Bs) : fnd (blks L) p = (fnd L p).map En.blk := fnd_map _ _ _
theorem Mp.look {w : World} {M : Nat} {L : Ents} (h : Mp w M L) (p : Bs) (hp : p.length ≤ maxLen) : (Instr.lookup 92 (.map (some M)) (.string (mk p)) false).run Tryz.prog w = .ok (ptrOf ((fnd L p).map En.blk)) w := by
 obtain ⟨v, ps, hr, hv⟩ := World.ownsMap.lookup h key9 Tryz.underlying92 (zero74 w) (zd := .nil) (zp := []) rfl (keyOf9 p hp)
 rw [hr]
 rw [datum_at, blks_fnd] at hv
 cases ho : fnd L p with
 | none =>
  rw [ho] at hv
  rw [ptrElem_nil hv]; rfl
 | some e =>
  rw [ho] at hv
  rw [ptrElem_lit hv]; rfl
theorem Mp.tight {w : World} {M n : Nat} {L : Ents} (h : w.ownsMap Tryz.prog 9 ptrElem M n (datum (blks L))) : Mp w M L := by
 have hz := datum_size (H := Unit) (blks L)
 obtain ⟨es, clock, hb, F, hs, hD⟩ := h
 refine ⟨es, clock, hb, F, ?_, hD⟩
 rw [hD] at hz
 simp only [Maps.size, length_sorted, List.length_map, Array.length_toList] at hz
 rw [hz]
 simp [blks]
theorem Mp.lt {w : World} {M : Nat} {L : Ents} (h : Mp w M L) : M < w.heap.size := World.ownsMap.lt h
theorem Mp.isMap {w : World} {M : Nat} {L : Ents} (h : Mp w M L) : ∃ es c, w.heap[M]? = some (.map es c) := by obtain ⟨es, c, hb, _⟩ := h; exact ⟨es, c, hb⟩
theorem Mp.kept {w w' : World} {M : Nat} {L : Ents} (h : Mp w M L) (hk : w'.heap[M]? = w.heap[M]?) : Mp w' M L := by
 obtain ⟨es, clock, hb, r⟩ := h
 exact ⟨es, clock, hk.trans hb, r⟩
theorem blks_put (L : Ents) (p : Bs) (e : En) : blks (put L p e) = put (blks L) p e.blk := put_map _ _ _ _
theorem blks_del (L : Ents) (p : Bs) : blks (del L p) = del (blks L) p := del_map _ _ _
theorem nds_put (L : Ents) (p : Bs) (e : En) : nds (put L p e) = put (nds L) p e.nd := put_map _ _ _ _
theorem nds_fnd (L : Ents) (p : Bs) : fnd (nds L) p = (fnd L p).map En.nd := fnd_map _ _ _
theorem nds_length (L : Ents) : (nds L).length = L.length := List.length_map _
theorem Mp.put {w : World} {M : Nat} {L : Ents} (h : Mp w M L) (hn : L.length ≤ 1000000) (p : Bs) (hp : p.length ≤ maxLen) (e : En) :
  ∃ w', (Instr.mapUpdate 92 (.map (some M)) (.string (mk p)) (.pointer (some ⟨e.blk, 0, none⟩))).run Tryz.prog w = .ok () w' ∧ Mp w' M (YtabmnkddmdffkaaGreatDoor.put L p e) ∧ w.grownBy w' (some M) := by
 obtain ⟨w', hr, h1, h2⟩ := World.ownsMap.update h key9 Tryz.underlying92 (by unfold maxLen; omega) (keyOf9 p hp) (d := .lit (.int .u64 e.blk)) (ps := []) (val := .pointer (some ⟨e.blk, 0, none⟩)) rfl
 rw [datum_put, ← blks_put] at h1
 exact ⟨w', hr, Mp.tight h1, h2⟩
theorem Mp.del {w : World} {M : Nat} {L : Ents} (h : Mp w M L) (p : Bs) (hp : p.length ≤ maxLen) (ty : TypeId) :
  ∃ w', (Builtin.delete_ #[92, 9] ty #[.map (some M), .string (mk p)]).run Tryz.prog w = .ok (.tuple #[]) w' ∧ Mp w' M (YtabmnkddmdffkaaGreatDoor.del L p) ∧ w.grownBy w' (some M) := by
 obtain ⟨w', hr, h1, h2⟩ := World.ownsMap.drop h key9 Tryz.underlying92 (keyOf9 p hp) ty
 rw [datum_del, ← blks_del] at h1
 exact ⟨w', hr, Mp.tight h1, h2.grown⟩
theorem Mp.len {w : World} {M : Nat} {L : Ents} (h : Mp w M L) (ty : TypeId) : (Builtin.len_ #[92] ty #[.map (some M)]).run Tryz.prog w = .ok (.int .i64 L.length) w := by
 rw [World.ownsMap.len h Tryz.underlying92 ty, datum_size]
 simp [blks]
theorem wpList_put (w : World) {ops : Array Oper} {rest : List Oper} {o : Oper} {a : Act} {Q : Exit → Act → World → Prop} (hg : o.guard = none) (m x v : Operand) (hop : o.op = Op.mapUpdate 92 m x v)
  (M : Nat) (L : Ents) (hm : a.eval m = .map (some M)) (h : Mp w M L) (hn : L.length ≤ 1000000) (p : Bs) (hp : p.length ≤ maxLen) (e : En) (hx : a.eval x = .string (mk p)) (hv : a.eval v = .pointer (some ⟨e.blk, 0, none⟩))
  (hK : ∀ w', Mp w' M (put L p e) → w.grownBy w' (some M) → wpList Tryz.prog ops Q rest (a.put o.dst undef) w') : wpList Tryz.prog ops Q (o :: rest) a w := by
 refine wpList_plain hg fun K' hK' => ?_
 obtain ⟨w', hrun, r1, r2⟩ := h.put hn p hp e
 unfold Oper.wp
 simp [execOp, hop, hm, hx, hv, hrun, Result.andThen]
 exact hK' _ _ (hK w' r1 r2)
theorem wpList_del (w : World) {ops : Array Oper} {rest : List Oper} {o : Oper} {a : Act} {Q : Exit → Act → World → Prop} (hg : o.guard = none) (m x : Operand) (hop : o.op = Op.call { callee := Callee.builtin Builtin.delete, args := #[m, x], argTypes := #[92, 9] })
  (M : Nat) (L : Ents) (hm : a.eval m = .map (some M)) (h : Mp w M L) (p : Bs) (hp : p.length ≤ maxLen) (hx : a.eval x = .string (mk p))
  (hK : ∀ w', Mp w' M (del L p) → w.grownBy w' (some M) → wpList Tryz.prog ops Q rest (a.put o.dst (.tuple #[])) w') : wpList Tryz.prog ops Q (o :: rest) a w := by
 refine wpList_plain hg fun K' hK' => ?_
 obtain ⟨w', hrun, r1, r2⟩ := h.del p hp o.type
 unfold Oper.wp
 simp [execOp, hop, resolve, invoke, builtin, hm, hx, hrun, Result.andThen]
 exact hK' _ _ (hK w' r1 r2)
structure FsAt (w : World) (A M : Nat) (L : Ents) (wt clk rm : Int) : Prop where
 fb : Fb w A M wt clk rm
 mp : Mp w M L
 nodes : ∀ e ∈ L, NodeAt w e.2
 rds : ∀ e ∈ L, Rds w e.2.dv e.2.nd.data
 srt : Srt L
 keys : ∀ e ∈ L, e.1.length ≤ 1000
structure Own (w : World) (S : Nat → Prop) (A M : Nat) (L : Ents) : Prop where
 sA : S A
 sM : S M
 sB : ∀ e ∈ L, S e.2.blk
 sD : ∀ e ∈ L, ∀ g, e.2.dv.ownBlock = some g → S g
 dat : ∀ e ∈ L, Dat w e.2.dv e.2.nd.data
 apB : ∀ a ∈ L, ∀ b ∈ L, a.2.blk = b.2.blk → a = b
 apD : ∀ a ∈ L, ∀ b ∈ L, ∀ g, a.2.dv.ownBlock = some g → b.2.dv.ownBlock = some g → a = b
theorem FsAt.keep {w w' : World} {A M : Nat} {L : Ents} {wt clk rm : Int} (h : FsAt w A M L wt clk rm) (hs : w.heap.size ≤ w'.heap.size) (hA : w'.heap[A]? = w.heap[A]?) (hM : w'.heap[M]? = w.heap[M]?)
  (hB : ∀ e ∈ L, w'.heap[e.2.blk]? = w.heap[e.2.blk]?) (hD : ∀ e ∈ L, e.2.nd.data ≠ [] → ∀ g, e.2.dv.ownBlock = some g → w'.heap[g]? = w.heap[g]?) : FsAt w' A M L wt clk rm :=
 ⟨hA.trans h.fb, h.mp.kept hM, fun e he => (hB e he).trans (h.nodes e he), fun e he => (h.rds e he).kept hs (hD e he), h.srt, h.keys⟩
theorem rds_lt {w : World} {v : Value} {bs : Bs} (h : Rds w v bs) (hne : bs ≠ []) : ∀ g, v.ownBlock = some g → g < w.heap.size := by
 intro g hg
 rcases h with ⟨rfl, _⟩ | ⟨a, cap, rfl, hl, _⟩
 ·cases hg
 ·cases hg; exact hl hne
theorem FsAt.below {w w' : World} {A M : Nat} {L : Ents} {wt clk rm : Int} (h : FsAt w A M L wt clk rm) (hb : Below w.heap.size w w') : FsAt w' A M L wt clk rm :=
 h.keep hb.size (hb.block A h.fb.lt) (hb.block M h.mp.lt) (fun e he => hb.block _ (h.nodes e he).lt) (fun e he hne g hg => hb.block g (rds_lt (h.rds e he) hne g hg))
theorem Own.below {w w' : World} {S : Nat → Prop} {A M : Nat} {L : Ents} (h : Own w S A M L) (hb : Below w.heap.size w w') : Own w' S A M L :=
 ⟨h.sA, h.sM, h.sB, h.sD, fun e he => (h.dat e he).kept fun g hg => hb.block g ((h.dat e he).lt g hg), h.apB, h.apD⟩
end Go.Proofs.YtabmnkddmdffkaaGreatDoor
namespace Go.Proofs.YtabmnkddmdffkaaGreatDoor
open Go.RowKit Go.Maps
theorem i64_id (n : Int) (h : -9223372036854775808 ≤ n ∧ n ≤ 9223372036854775807) : IntKind.i64.wrap n = n := by rw [IntKind.wrap_i64]; omega
theorem w64_id (n : Int) (h : -9223372036854775808 ≤ n ∧ n ≤ 9223372036854775807) : wrap64 n = n := by unfold wrap64; omega
theorem cut_nil (w : World) : Calls Tryz.prog 71 #[.slice none 0 0] w fun r w' => r = .returned (.slice none 0 0) ∧ w' = w := by
 go_enter Tryz.func71, Tryz.ntmps71
 go_wp2
 go_ret
 exact ⟨rfl, rfl⟩
theorem cut_some (g n cap : Nat) (h : n ≤ cap) (_hc : cap ≤ maxLen) (w : World) : Calls Tryz.prog 71 #[.slice (some ⟨g, 0, none⟩) n cap] w fun r w' => r = .returned (.slice (some ⟨g, 0, none⟩) n n) ∧ w' = w := by
 unfold maxLen at _hc
 go_enter Tryz.func71, Tryz.ntmps71
 go_wp2
 go_ret
 exact ⟨rfl, rfl⟩
theorem own_any (v : Value) (bs : Bs) (w : World) (hv : Rds w v bs) (hsz : bs.length ≤ 1099511627776) :
  Calls Tryz.prog 43 #[v] w fun r w' => ∃ v', r = .returned v' ∧ Dat w' v' bs ∧ (∀ g, v'.ownBlock = some g → g = w.heap.size) ∧ Below w.heap.size w w' := by
 go_enter Tryz.func43, Tryz.ntmps43
 go_wp2_with (at_builtin; refine wpList_append_dat _ rfl _ _ rfl rfl rfl (Dat.nil _) hv (by simpa using hsz) ?_)
 intro v' w1 hd _ hg ho
 have hb : Below w.heap.size w w1 := ⟨hg.os, hg.tape, hg.output, hg.size, fun k hk => hg.block k hk (by simp [Value.ownBlock])⟩
 rcases hd with ⟨rfl, rfl⟩ | ⟨g, cap, cur, rfl, hgb, h1, h2, h3, h4⟩
 ·go_wp2_with (go_at_call 71; refine (cut_nil _).mono ?_; rintro e w2 ⟨rfl, rfl⟩)
  go_ret
  exact ⟨_, rfl, .inl ⟨rfl, rfl⟩, fun g e => (by simp [Value.ownBlock] at e), hb⟩
 ·go_wp2_with (go_at_call 71; refine (cut_some g bs.length cap h1 h3 _).mono ?_; rintro e w2 ⟨rfl, rfl⟩)
  go_ret
  refine ⟨_, rfl, .inr ⟨g, bs.length, cur, rfl, hgb, Nat.le_refl _, by omega, by omega, h4⟩, fun g' e => ?_, hb⟩
  cases e
  rcases ho with ho | ho
  ·simp [Value.ownBlock] at ho
  ·simpa [Value.ownBlock] using ho
theorem weight_any (e : En) (w : World) (hn : NodeAt w e) (hl : ∃ a cap, e.dv = .slice a e.nd.data.length cap) (hsz : e.nd.data.length ≤ 1099511627776) :
  Calls Tryz.prog 80 #[.pointer (some ⟨e.blk, 0, none⟩)] w fun r w' => r = .returned (.int .i64 (e.nd.wt : Nat)) ∧ w' = w := by
 obtain ⟨a, cap, hv⟩ := hl
 have c2 := hn.c2
 rw [hv] at c2
 have hw : ((e.nd.wt : Nat) : Int) = 1 + (e.nd.data.length : Int) := by unfold Nd.wt; omega
 rw [hw]
 generalize e.nd.data.length = n at c2 hsz
 clear hw hv hn
 go_enter Tryz.func80, Tryz.ntmps80
 go_wp2
 go_ret
 exact ⟨rfl, rfl⟩
abbrev Two (A M : Nat) : Nat → Prop := fun k => k = A ∨ k = M
theorem neq_ptr_nil (b : Nat) (w : World) : (binOp .neq 97 (.pointer (some ⟨b, 0, none⟩)) (.pointer none)).run Tryz.prog w = .ok (.bool true) w := by kernel_rfl
theorem neq_nil_nil (w : World) : (binOp .neq 97 (.pointer none) (.pointer none)).run Tryz.prog w = .ok (.bool false) w := by kernel_rfl
def wtAt (L : Ents) (p : Bs) : Nat := match fnd L p with | some e => e.nd.wt | none => 0
theorem Mp.ne {w : World} {A M : Nat} {L : Ents} {wt clk rm : Int} (h : Mp w M L) (f : Fb w A M wt clk rm) : M ≠ A := by
 obtain ⟨es, c, hm⟩ := h.isMap
 intro e
 rw [e] at hm
 unfold Fb at f
 rw [f] at hm
 cases hm
theorem Fb.kept {w w' : World} {A M : Nat} {wt clk rm : Int} (h : Fb w A M wt clk rm) (hk : w'.heap[A]? = w.heap[A]?) : Fb w' A M wt clk rm := hk.trans h
theorem turn_set {A M : Nat} (w : World) (j : Nat) (v : Value) : Turn (Two A M) w (w.setCell ⟨A, j, none⟩ v) :=
 ⟨rfl, rfl, rfl, Nat.le_of_eq (by simp), fun k _ hn => Below.heap_setCell _ _ _ _ fun e => hn (.inl e)⟩
set_option maxHeartbeats 1000000 in
theorem drop_some (A M : Nat) (L : Ents) (wt clk rm : Int) (p : Bs) (e : En) (w : World) (h : FsAt w A M L wt clk rm) (hf : fnd L p = some e) (hp : p.length ≤ 1000) (hw0 : -1099511627776 ≤ wt) (hw1 : wt ≤ 1099511627776) (hsz : e.nd.data.length ≤ 1099511627776) :
  Calls Tryz.prog 79 #[.pointer (some ⟨A, 0, none⟩), .string (mk p)] w fun r w' => r = .returned (.tuple #[]) ∧ Fb w' A M (wt - e.nd.wt) clk rm ∧ Mp w' M (del L p) ∧ Turn (Two A M) w w' := by
 have hm : (p, e) ∈ L := fnd_mem hf
 have hpm : p.length ≤ maxLen := by unfold maxLen; omega
 have hl := h.mp.look p hpm
 rw [hf] at hl
 have c0 := h.fb.c0
 have c1 := h.fb.c1
 have f1 := h.fb.fz 1
 have hn := h.nodes _ hm
 have q := weight_any e w.drew hn (h.rds _ hm).len hsz
 have hwt : e.nd.wt ≤ 1099511627777 := by unfold Nd.wt; omega
 have nq := neq_ptr_nil e.blk
 have hfb := h.fb
 have hmp := h.mp
 have hne := hmp.ne hfb
 clear hf h hsz
 simp only [Option.map, ptrOf] at hl
 generalize e.nd.wt = n at q hwt
 obtain ⟨x, hx⟩ : ∃ x, x = wt - (n : Int) := ⟨_, rfl⟩
 have hwr : IntKind.i64.wrap (wt - (n : Int)) = x := by rw [hx]; exact i64_id _ ⟨by omega, by omega⟩
 have hw6 : wrap64 (wt - (n : Int)) = x := by rw [hx]; exact w64_id _ ⟨by omega, by omega⟩
 rw [← hx]
 clear hx
 have hmp2 : Mp (w.setCell ⟨A, 1, none⟩ (.int .i64 x)).drew M L := hmp.kept (Below.heap_setCell _ _ _ _ hne)
 have hfb2 : Fb (w.setCell ⟨A, 1, none⟩ (.int .i64 x)).drew A M x clk rm := hfb.set1 x
 have ht2 : Turn (Two A M) w (w.setCell ⟨A, 1, none⟩ (.int .i64 x)).drew := (turn_set w 1 _).drew
 have c2 : (w.setCell ⟨A, 1, none⟩ (.int .i64 x)).cell? ⟨A, 0, none⟩ = some (.map (some M)) := (hfb.set1 x).c0
 clear hn hm hw0 hw1 hwt
 go_enter Tryz.func79, Tryz.ntmps79
 go_wp2
 go_region_with (go_at_call 80; refine q.mono ?_; rintro e w' ⟨rfl, rfl⟩)
 all_goals
  go_wp2_with (at_delete; refine wpList_del _ rfl _ _ rfl M L rfl hmp2 p hpm rfl ?_; intro w3 hm3 hg3)
  go_end0
  exact ⟨rfl, hfb2.kept (hg3.block A hfb2.lt (fun e => hne (Option.some.inj e).symm)), hm3, ht2.trans' (Turn.of_grown hg3 fun k e => .inr (Option.some.inj e).symm)⟩
theorem drop_none (A M : Nat) (L : Ents) (wt clk rm : Int) (p : Bs) (w : World) (h : FsAt w A M L wt clk rm) (hf : fnd L p = none) (hp : p.length ≤ 1000) :
  Calls Tryz.prog 79 #[.pointer (some ⟨A, 0, none⟩), .string (mk p)] w fun r w' => r = .returned (.tuple #[]) ∧ w' = w := by
 have hl := h.mp.look p (by unfold maxLen; omega)
 rw [hf] at hl
 simp only [Option.map, ptrOf] at hl
 have c0 := h.fb.c0
 have nq := neq_nil_nil
 clear h hf
 go_enter Tryz.func79, Tryz.ntmps79
 go_wp2
 go_end0
 exact ⟨rfl, rfl⟩
theorem drop_any (A M : Nat) (L : Ents) (wt clk rm : Int) (p : Bs) (w : World) (h : FsAt w A M L wt clk rm) (hp : p.length ≤ 1000) (hw0 : -1099511627776 ≤ wt) (hw1 : wt ≤ 1099511627776) (hsz : ∀ e ∈ L, e.2.nd.data.length ≤ 1099511627776) :
  Calls Tryz.prog 79 #[.pointer (some ⟨A, 0, none⟩), .string (mk p)] w fun r w' => r = .returned (.tuple #[]) ∧ Fb w' A M (wt - wtAt L p) clk rm ∧ Mp w' M (del L p) ∧ Turn (Two A M) w w' := by
 unfold wtAt
 cases hf : fnd L p with
 | none =>
  refine (drop_none A M L wt clk rm p w h hf hp).mono ?_
  rintro e w' ⟨rfl, rfl⟩
  refine ⟨rfl, ?_, ?_, Turn.refl _ _⟩
  ·have : wt - ((0 : Nat) : Int) = wt := by omega
   rw [this]; exact h.fb
  ·rw [del_none hf]; exact h.mp
 | some e => exact drop_some A M L wt clk rm p e w h hf hp hw0 hw1 (hsz _ (fnd_mem hf))
set_option maxHeartbeats 1000000 in
theorem set_any (A M : Nat) (L : Ents) (wt clk rm : Int) (p : Bs) (e : En) (w : World) (h : FsAt w A M L wt clk rm) (hp : p.length ≤ 1000) (hw0 : -549755813888 ≤ wt) (hw1 : wt ≤ 549755813888) (hsz : ∀ e ∈ L, e.2.nd.data.length ≤ 549755813888)
  (hn : NodeAt w e) (hd : Rds w e.dv e.nd.data) (hes : e.nd.data.length ≤ 549755813888) (hlen : L.length ≤ 1000000) :
  Calls Tryz.prog 50 #[.pointer (some ⟨A, 0, none⟩), .string (mk p), .pointer (some ⟨e.blk, 0, none⟩)] w fun r w' => r = .returned (.tuple #[]) ∧ Fb w' A M (wt - wtAt L p + e.nd.wt) clk rm ∧ Mp w' M (put L p e) ∧ Turn (Two A M) w w' := by
 have q1 := drop_any A M L wt clk rm p w h hp (by omega) (by omega) (fun x hx => Nat.le_trans (hsz x hx) (by omega))
 have hpm : p.length ≤ maxLen := by unfold maxLen; omega
 have hA : e.blk ≠ A := by
  intro e1
  have := hn
  unfold NodeAt at this
  rw [e1] at this
  have h2 := h.fb
  unfold Fb at h2
  rw [h2] at this
  simp at this
 have hM : e.blk ≠ M := by
  intro e1
  have := hn
  unfold NodeAt at this
  obtain ⟨es, c, hm⟩ := h.mp.isMap
  rw [e1, hm] at this
  cases this
 have hwb : (wtAt L p : Int) ≤ 549755813889 := by
  unfold wtAt
  cases hf : fnd L p with
  | none => simp
  | some x => have : x.nd.data.length ≤ 549755813888 := hsz _ (fnd_mem hf); simp only [Nd.wt]; omega
 have hew : e.nd.wt ≤ 549755813889 := by unfold Nd.wt; omega
 have hl := hd.len
 have hes' : e.nd.data.length ≤ 1099511627776 := by omega
 have hlen' : (del L p).length ≤ 1000000 := Nat.le_trans (del_length_le L p) hlen
 have hdl : fnd (del L p) p = none := fnd_del_same L p
 have hpd : put (del L p) p e = put L p e := by unfold put; rw [del_none hdl]
 clear hsz hes hlen hd
 generalize wtAt L p = d at q1 hwb
 have hx0 : -1099511627777 ≤ wt - (d : Int) := by omega
 have hx1 : wt - (d : Int) ≤ 1099511627776 := by omega
 generalize wt - (d : Int) = x at q1 hx0 hx1
 clear hw0 hw1 hwb h d
 go_enter Tryz.func50, Tryz.ntmps50
 go_wp2_with fail
 refine q1.mono ?_
 rintro r w1 ⟨rfl, hf1, hm1, ht1⟩
 have c0 := hf1.c0
 have hne := hm1.ne hf1
 go_wp2_with (at_mapUpdate; refine wpList_put _ rfl _ _ _ rfl M (del L p) rfl hm1 hlen' p hpm e rfl rfl ?_; intro w2 hm2 hg2)
 have hf2 : Fb w2 A M x clk rm := hf1.kept (hg2.block A hf1.lt (fun e => hne (Option.some.inj e).symm))
 have hn1 : NodeAt w1 e := (ht1.block _ hn.lt (fun hs => by rcases hs with h | h; exact hA h; exact hM h)).trans hn
 have hn2 : NodeAt w2 e := (hg2.block _ hn1.lt (fun e => hM (Option.some.inj e))).trans hn1
 have q2 := weight_any e w2.drew hn2 hl hes'
 have ht2 : Turn (Two A M) w w2 := ht1.trans' (Turn.of_grown hg2 fun k e => .inr (Option.some.inj e).symm)
 rw [hpd] at hm2
 have c0 := hf2.c0
 have c1 := hf2.c1
 have f1 := hf2.fz 1
 obtain ⟨y, hy⟩ : ∃ y, y = x + (e.nd.wt : Int) := ⟨_, rfl⟩
 have Hy := hide' hy
 generalize e.nd.wt = n at q2 hew hy
 have hwr : IntKind.i64.wrap (x + (n : Int)) = y := by rw [hy]; exact i64_id _ ⟨by omega, by omega⟩
 have hw6 : wrap64 (x + (n : Int)) = y := by rw [hy]; exact w64_id _ ⟨by omega, by omega⟩
 have hmp2 : Mp (w2.setCell ⟨A, 1, none⟩ (.int .i64 y)).drew M (put L p e) := hm2.kept (Below.heap_setCell _ _ _ _ hne)
 have hfb2 : Fb (w2.setCell ⟨A, 1, none⟩ (.int .i64 y)).drew A M y clk rm := hf2.set1 y
 have ht3 : Turn (Two A M) w (w2.setCell ⟨A, 1, none⟩ (.int .i64 y)).drew := (ht2.trans' (turn_set w2 1 _)).drew
 clear hx0 hx1 hew hy hm1 hm2 hf1 hf2 hn1 hn2 ht1 ht2 hg2 hl hn q1
 go_wp2
 go_region_with (go_at_call 80; refine q2.mono ?_; rintro e w' ⟨rfl, rfl⟩)
 all_goals
  go_wp2
  go_end0
  rw [← Hy.out]
  exact ⟨rfl, hfb2, hmp2, ht3⟩
end Go.Proofs.YtabmnkddmdffkaaGreatDoor
namespace Go.Proofs.YtabmnkddmdffkaaGreatDoor
open Go.RowKit Go.Maps
def aged (e : En) (t : Int) : En := { e with nd := { e.nd with time := t } }
theorem node_ne {w : World} {e : En} {A M : Nat} {wt clk rm : Int} (hn : NodeAt w e) (h : Fb w A M wt clk rm) : e.blk ≠ A := by
 intro e1
 unfold NodeAt at hn
 unfold Fb at h
 rw [e1, h] at hn
 simp at hn
theorem node_ne_map {w : World} {e : En} {M : Nat} {L : Ents} (hn : NodeAt w e) (h : Mp w M L) : e.blk ≠ M := by
 intro e1
 unfold NodeAt at hn
 obtain ⟨es, c, hm⟩ := h.isMap
 rw [e1, hm] at hn
 cases hn
end Go.Proofs.YtabmnkddmdffkaaGreatDoor
namespace Go.Proofs.YtabmnkddmdffkaaGreatDoor
open Go.RowKit Go.Maps
abbrev Three (A M b : Nat) : Nat → Prop := fun k => k = A ∨ k = M ∨ k = b
def Flt (w : World) (b : Nat) (n : Int) : Prop := ∃ p, w.heap[b]? = some (.cells #[.string p, .iface 31 (.int .i64 n)] 107 (0, 0))
end Go.Proofs.YtabmnkddmdffkaaGreatDoor
namespace Go.Proofs.YtabmnkddmdffkaaGreatDoor
open Go.RowKit Go.Shelf
attribute [local go_sem] Oper.semAt_some
def Kf (A N : Nat) (W W' : World) : Prop := W.heap.size ≤ W'.heap.size ∧ ∀ k, k < N → k ≠ A → W'.heap[k]? = W.heap[k]?
theorem Kf.refl (A N : Nat) (W : World) : Kf A N W W := ⟨Nat.le_refl _, fun _ _ _ => rfl⟩
theorem Kf.t {A N : Nat} {X Y Z : World} (h : Kf A N X Y) (k : Kf A N Y Z) : Kf A N X Z := ⟨Nat.le_trans h.1 k.1, fun i hi hA => (k.2 i hi hA).trans (h.2 i hi hA)⟩
theorem Kf.b {A N : Nat} (W : World) (l : Nat) (o' : Obj) (hl : N ≤ l) : Kf A N W (W.putObj l o') := ⟨by simp, fun k hk _ => World.putObj_heap_other (by omega)⟩
theorem Kf.below {A N : Nat} {W W' : World} (h : Below W.heap.size W W') (hN : N ≤ W.heap.size) : Kf A N W W' := ⟨h.size, fun k hk _ => h.block k (by omega)⟩
abbrev Pl (p : Bs) := { i : Nat // i ≤ p.length }
def pls {p : Bs} (l : List (Pl p)) : List Nat := l.map (·.1)
def isEnd (p : Bs) (i : Nat) : Bool := i == p.length || p.getD i 0 == 47
def endsTo (p : Bs) (k : Nat) : List Nat := ((List.range k).map (· + 1)).filter (isEnd p)
theorem ends_eq (p : Bs) : ends p = endsTo p p.length := rfl
theorem endsTo_yes (p : Bs) (k : Nat) (h : isEnd p (k + 1) = true) : endsTo p (k + 1) = endsTo p k ++ [k + 1] := by
 unfold endsTo
 rw [List.range_succ, List.map_append, List.filter_append]
 simp [h]
theorem endsTo_no (p : Bs) (k : Nat) (h : isEnd p (k + 1) = false) : endsTo p (k + 1) = endsTo p k := by
 unfold endsTo
 rw [List.range_succ, List.map_append, List.filter_append]
 simp [h]
theorem endsTo_prefix (p : Bs) {j m : Nat} (h : j ≤ m) : endsTo p j <+: endsTo p m := by
 induction m with
 | zero => have : j = 0 := by omega
           subst this; exact List.prefix_refl _
 | succ m ih =>
  by_cases e : j = m + 1
  ·subst e; exact List.prefix_refl _
  ·refine (ih (by omega)).trans ?_
   cases hc : isEnd p (m + 1) with
   | true => rw [endsTo_yes p m hc]; exact List.prefix_append _ _
   | false => rw [endsTo_no p m hc]; exact List.prefix_refl _
theorem nameEnds_any (p : Bs) (w : World) : Calls Tryz.prog 100 #[.string (mk p)] w fun e w' => e = .returned (.func (.func 132) #[] #[.pointer (some ⟨w.heap.size, 0, none⟩)]) ∧ w' = w.alloc (.cells #[.string (mk p)] 9) := by
 go_enter Tryz.func100, Tryz.ntmps100
 go_wp2
 go_ret
 exact ⟨rfl, rfl⟩
set_option maxRecDepth 100000 in
set_option maxHeartbeats 2000000 in
theorem ends1_in (n : Nat) (hn : 1 ≤ n) (l A N Bp : Nat) (p : Bs) (hp : p.length ≤ 1000) (J Jx : List (Pl p) → World → Prop)
  (hY : ∀ pre x W, J pre W → pre.length < p.length → YieldAt Fence.wide (n - 1) Tryz.prog l #[.int .i64 x.1] W fun e W' =>
   (e = .returned (.bool true) ∧ J (pre ++ [x]) W' ∧ Kf A N W W') ∨ (e = .returned (.bool false) ∧ Jx (pre ++ [x]) W'))
  (W : World) (hE : ∀ W', Kf A N W W' → W'.cell? ⟨Bp, 0, none⟩ = some (.string (mk p))) (h0 : J [] W) :
  CallsIn Fence.wide n Tryz.prog 132 #[.func (.yield l) #[] #[], .pointer (some ⟨Bp, 0, none⟩)] W fun e W' => (∃ v, e = .returned v) ∧
   ((∃ ys : List (Pl p), pls ys = ends p ∧ J ys W') ∨ (∃ pre, pls pre <+: ends p ∧ Jx pre W')) := by
 obtain ⟨s, hs⟩ : ∃ s, s = mk p := ⟨_, rfl⟩
 rw [← hs] at hE
 have HE := hide' hE
 have HY := hide' hY
 have hms : s.size = p.length := by rw [hs, mk_size]
 have HG : Hid (∀ (j : Nat) (h : j < s.size), p.getD j 0 = s[j]) := by
  intro j h
  have ht : tl s = p := by rw [hs, tl_mk]
  rw [← ht]
  exact getD_at s j h
 clear hE hY hs
 refine callsIn_of_wp Tryz.func132 rfl trivial ?_ rfl
 simp only [Tryz.ntmps132, List.size_toArray, List.length_cons, List.length_nil, Nat.reduceAdd, Nat.reduceSub, Array.replicate_succ, Array.replicate_zero, List.push_toArray, List.append_toArray, List.nil_append, List.cons_append]
 gi_wp2
 gi_loopw [3] (fun i wr => ∃ (k : Nat) (pre : List (Pl p)), k ≤ p.length ∧ pre.length ≤ k ∧ i = .int .i64 ((k : Int) + 1) ∧ Kf A N W wr ∧ Hid (pls pre = endsTo p k) ∧ J pre wr)
  (fun i _ => p.length + 1 - (intOf i).toNat)
 case atStart => exact ⟨0, [], Nat.zero_le _, Nat.le_refl _, rfl, Kf.refl A N W, rfl, h0⟩
 case round =>
  obtain ⟨k, pre, hk, hpl, rfl, hKf, HW, hJs⟩ := hrel
  have c0 := HE.out wr hKf
  by_cases hlt : k < p.length
  ·by_cases hc : k + 1 = p.length
   ·have hin : isEnd p (k + 1) = true := by unfold isEnd; simp [hc]
    obtain ⟨fn, tmps, assign, body, hy, hRd⟩ := HY.out pre ⟨k + 1, by omega⟩ wr hJs (by omega)
    have b1 : ((k : Int) + 1 == (p.length : Int)) = true := beq_iff_eq.2 (by omega)
    have b2 : ((k : Int) + 1 == (s.size : Int)) = true := beq_iff_eq.2 (by omega)
    dsimp only at hy
    rw [show ((k + 1 : Nat) : Int) = (k : Int) + 1 by omega] at hy
    gi_wp2
    refine hRd.mono ?_
    rintro e W3 (⟨rfl, hJ3, hk3⟩ | ⟨rfl, hJx3⟩)
    ·gi_wp2
     go_roundw
     case rel => exact ⟨k + 1, pre ++ [⟨k + 1, by omega⟩], by omega, by simp; omega, by go_num, hKf.t hk3, by show pls _ = _; rw [endsTo_yes p k hin, ← HW.out]; simp [pls], hJ3⟩
     case measure => simp [intOf]; omega
    ·gi_wp2
     refine bodyPost_ret (results_none rfl _ _ _) rfl ?_
     refine ⟨⟨_, rfl⟩, .inr ⟨pre ++ [⟨k + 1, by omega⟩], ?_, hJx3⟩⟩
     have e1 : pls (pre ++ [(⟨k + 1, by omega⟩ : Pl p)]) = endsTo p (k + 1) := by rw [endsTo_yes p k hin, ← HW.out]; simp [pls]
     rw [e1, ends_eq]
     exact endsTo_prefix p (by omega)
   ·have hk1 : k + 1 < s.size := by omega
    have hg := HG.out (k + 1) hk1
    have b1 : ((k : Int) + 1 == (p.length : Int)) = false := beq_eq_false_iff_ne.2 (by omega)
    have b2 : ((k : Int) + 1 == (s.size : Int)) = false := beq_eq_false_iff_ne.2 (by omega)
    by_cases h47 : s[k + 1] = 47
    ·have hin : isEnd p (k + 1) = true := by unfold isEnd; rw [hg, h47]; simp
     have k2 := beq_yes s[k + 1] 47 47 rfl h47
     have k3 : (s[k + 1].toNat : Int) = 47 := by rw [h47]; rfl
     obtain ⟨fn, tmps, assign, body, hy, hRd⟩ := HY.out pre ⟨k + 1, by omega⟩ wr hJs (by omega)
     clear hg h47
     dsimp only at hy
     rw [show ((k + 1 : Nat) : Int) = (k : Int) + 1 by omega] at hy
     gi_wp2
     refine hRd.mono ?_
     rintro e W3 (⟨rfl, hJ3, hk3⟩ | ⟨rfl, hJx3⟩)
     ·gi_wp2
      go_roundw
      case rel => exact ⟨k + 1, pre ++ [⟨k + 1, by omega⟩], by omega, by simp; omega, by go_num, hKf.t hk3, by show pls _ = _; rw [endsTo_yes p k hin, ← HW.out]; simp [pls], hJ3⟩
      case measure => simp [intOf]; omega
     ·gi_wp2
      refine bodyPost_ret (results_none rfl _ _ _) rfl ?_
      refine ⟨⟨_, rfl⟩, .inr ⟨pre ++ [⟨k + 1, by omega⟩], ?_, hJx3⟩⟩
      have e1 : pls (pre ++ [(⟨k + 1, by omega⟩ : Pl p)]) = endsTo p (k + 1) := by rw [endsTo_yes p k hin, ← HW.out]; simp [pls]
      rw [e1, ends_eq]
      exact endsTo_prefix p (by omega)
    ·have hin : isEnd p (k + 1) = false := by unfold isEnd; rw [hg]; simp [h47]; omega
     have k2 := beq_no s[k + 1] 47 47 rfl h47
     have k3 : ¬ (s[k + 1].toNat : Int) = 47 := fun e => h47 (UInt8.toNat_inj.1 (by have : (47 : UInt8).toNat = 47 := rfl; omega))
     clear hg h47
     gi_wp2
     refine ⟨fun _ h => (by cases h), ?_⟩
     gi_wp2
     go_roundw
     case rel => exact ⟨k + 1, pre, by omega, by omega, by go_num, hKf, by show pls _ = _; rw [endsTo_no p k hin, ← HW.out], hJs⟩
     case measure => simp [intOf]; omega
  ·gi_wp2
   go_end0
   have hk2 : k = p.length := by omega
   exact ⟨⟨_, rfl⟩, .inl ⟨pre, by rw [ends_eq, ← hk2]; exact HW.out, hJs⟩⟩
theorem ends_stops (n : Nat) (hn : 1 ≤ n) (A N Bp : Nat) (p : Bs) (hp : p.length ≤ 1000) (w : World) (hN : N ≤ w.heap.size) (hE : ∀ W', Kf A N w W' → W'.cell? ⟨Bp, 0, none⟩ = some (.string (mk p))) :
  SeqStopsK Fence.wide n Tryz.prog 132 #[.pointer (some ⟨Bp, 0, none⟩)] (fun x : Pl p => #[Value.int .i64 x.1]) (Kf A N) (fun ys => pls ys = ends p) (fun pre => pls pre <+: ends p) p.length w := fun l J Jx W hW _ _ hY h0 =>
 ends1_in n hn l A N Bp p hp J Jx hY W (fun W' h => hE W' ((Kf.below hW hN).t h)) h0
end Go.Proofs.YtabmnkddmdffkaaGreatDoor
namespace Go.Proofs.YtabmnkddmdffkaaGreatDoor
open Go.RowKit Go.Shelf
set_option maxRecDepth 100000 in
set_option maxHeartbeats 2000000 in
theorem irune_err (w : World) :
  Calls Tryz.prog 178 #[.string ⟨#[0, 10]⟩, .int .i32 65533] w fun e w' => e = .returned (.int .i64 (-1)) ∧ Below w.heap.size w w' := by
 have n0 := fun ty => run_next_ascii (P := Tryz.prog) w ⟨#[0, 10]⟩ 0 ty (by decide) (by decide)
 have n1 := fun ty => run_next_ascii (P := Tryz.prog) w ⟨#[0, 10]⟩ 1 ty (by decide) (by decide)
 have n2 := fun ty => run_next_end (P := Tryz.prog) w ⟨#[0, 10]⟩ 2 ty (by decide)
 go_enter Tryz.func178, Tryz.ntmps178
 go_wp2
 go_loopw [] (fun wr => ∃ pos : Nat, pos ≤ 2 ∧ wr = w.iter ⟨#[0, 10]⟩ pos) (fun wr => 2 - wr.iterPos w.heap.size)
 case atStart => exact ⟨0, by omega, rfl⟩
 case round =>
  obtain ⟨pos, hp, rfl⟩ := hrel
  have hme : ∀ p, (w.iter ⟨#[0, 10]⟩ p).iterPos w.heap.size = p := fun p => by simp only [World.iterPos, World.iter_heap]
  rcases (by omega : pos = 0 ∨ pos = 1 ∨ pos = 2) with rfl | rfl | rfl
  ·go_wp2
   exact ⟨⟨1, by omega, rfl⟩, by rw [hme, hme]; omega⟩
  ·go_wp2
   exact ⟨⟨2, by omega, rfl⟩, by rw [hme, hme]; omega⟩
  ·go_wp2
   go_ret
   exact ⟨rfl, (Below.refl _ w).alloc (Nat.le_refl _) _⟩
set_option maxRecDepth 100000 in
set_option maxHeartbeats 2000000 in
theorem irune_bad (r : Int) (h1 : 128 ≤ r) (h2 : r ≠ 65533) (hv : Lib.validRune r = false) (w : World) :
  Calls Tryz.prog 178 #[.string ⟨#[0, 10]⟩, .int .i32 r] w fun e w' => e = .returned (.int .i64 (-1)) ∧ Below w.heap.size w w' := by
 have k1 : ¬ r < 128 := by omega
 have k0 : (0 : Int) ≤ r := by omega
 have k2 : (r == 65533) = false := beq_eq_false_iff_ne.2 h2
 have hV := fun w => Tryz.utf8_ValidRune r w
 simp only [hv] at hV
 clear hv h2
 go_enter Tryz.func178, Tryz.ntmps178
 go_wp2_with (go_at_call 197; refine (hV _).mono ?_; rintro e w' ⟨rfl, rfl⟩)
 go_ret
 exact ⟨rfl, Below.refl _ _⟩
set_option maxRecDepth 100000 in
set_option maxHeartbeats 2000000 in
theorem irune_ok (r : Int) (h1 : 128 ≤ r) (h2 : r ≠ 65533) (hv : Lib.validRune r = true) (w : World) :
  Calls Tryz.prog 178 #[.string ⟨#[0, 10]⟩, .int .i32 r] w fun e w' => e = .returned (.int .i64 (-1)) ∧ Below w.heap.size w w' := by
 have hval : Utf8.valid r = true := by
  simp only [Lib.validRune, decide_eq_true_eq] at hv
  simp only [Utf8.valid, Bool.or_eq_true, Bool.and_eq_true, decide_eq_true_eq]
  omega
 obtain ⟨e1, e2, e3⟩ := encode_facts r hval h1
 have k1 : ¬ r < 128 := by omega
 have k0 : (0 : Int) ≤ r := by omega
 have k2 : (r == 65533) = false := beq_eq_false_iff_ne.2 h2
 have hV := fun w => Tryz.utf8_ValidRune r w
 simp only [hv] at hV
 clear hv h2 hval
 obtain ⟨E, hE⟩ : ∃ E, E = Utf8.encode r := ⟨_, rfl⟩
 rw [← hE] at e1 e2 e3
 have hE' := hE.symm
 obtain ⟨n, hn⟩ : ∃ n, E.size = n + 1 := ⟨E.size - 1, by omega⟩
 have hlt : n < E.size := by omega
 have hb : 128 ≤ (E[n]'hlt).toNat := by have := e3 (by omega); simpa [hn] using this
 obtain ⟨b, hbe⟩ : ∃ b, E[n]'hlt = b := ⟨_, rfl⟩
 rw [hbe] at hb
 have hz : ((E.size : Int) - 1) = n := by omega
 have hn2 : 1 ≤ n := by omega
 have hn3 : n ≤ 3 := by omega
 clear hE e1 e2 e3
 go_enter Tryz.func178, Tryz.ntmps178
 go_wp2_with (go_at_call 197; refine (hV _).mono ?_; rintro e w' ⟨rfl, rfl⟩)
 go_step3
 go_wp2
 go_loopw [9, 10] (fun i f wr => i = .int .i64 n ∧ f = .int .i64 0 ∧ wr = w') (fun _ _ _ => 0)
 case atStart => exact ⟨by go_num, rfl, rfl⟩
 case round =>
  obtain ⟨rfl, rfl, rfl⟩ := hrel
  by_cases h2 : 2 ≤ n
  ·have d1 : ¬ (n : Int) < 2 := by omega
   go_wp2
   go_ret
   exact ⟨rfl, Below.refl _ _⟩
  ·obtain rfl : n = 1 := by omega
   have d2 : ((((⟨#[0, 10]⟩ : ByteArray)[1]'(by decide)).toNat : Int) != (b.toNat : Int)) = true := by
    show ((10 : Int) != (b.toNat : Int)) = true
    rw [bne_iff_ne]
    omega
   have q : ∀ w, Calls Tryz.prog 196 #[.string ByteArray.empty, .int .u8 b.toNat] w fun e w' => e = .returned (.int .i64 (-1)) ∧ w' = w := fun w => Tryz.strings_IndexByte _ _ w
   have hw2 : IntKind.i64.wrap 2 = 2 := by decide
   have hw3 : IntKind.i64.wrap (1 + 1) = 2 := by decide
   go_wp2
   go_step3
   go_wp2
   go_region
   go_wp2
   go_quiet ((go_at_call 196; exact (q _).mono fun _ _ h => ⟨h.1, _, h.2⟩))
   go_wp2
   rw [Exit.noGoto_ret]
   go_wp2
   try rw [Exit.noGoto_ret]
   go_ret
   exact ⟨rfl, ⟨rfl, rfl, rfl, Nat.le_refl _, fun _ _ => rfl⟩⟩
end Go.Proofs.YtabmnkddmdffkaaGreatDoor
namespace Go.Proofs.YtabmnkddmdffkaaGreatDoor
open Go.RowKit Go.Shelf
def has (l : List UInt8) : Bool := l.contains 0 || l.contains 10
theorem okn_has (x : List UInt8) : okn x = (decide (x.length ≤ 255) && !has x) := by unfold okn has; rw [Bool.not_or, Bool.and_assoc]
theorem irune_high (r : Int) (h1 : 128 ≤ r) (w : World) :
  Calls Tryz.prog 178 #[.string ⟨#[0, 10]⟩, .int .i32 r] w fun e w' => e = .returned (.int .i64 (-1)) ∧ Below w.heap.size w w' := by
 by_cases h2 : r = 65533
 ·subst h2; exact irune_err w
 ·cases hv : Lib.validRune r with
  | true => exact irune_ok r h1 h2 hv w
  | false => exact irune_bad r h1 h2 hv w
theorem irune_low (b : UInt8) (h : b.toNat < 128) (w : World) :
  Calls Tryz.prog 178 #[.string ⟨#[0, 10]⟩, .int .i32 b.toNat] w fun e w' => (∃ n : Int, e = .returned (.int .i64 n) ∧ (0 ≤ n ↔ b = 0 ∨ b = 10)) ∧ w' = w := by
 refine (Tryz.strings_IndexRune_ascii ⟨#[0, 10]⟩ b.toNat w (by omega) (by omega)).mono ?_
 rintro e w' ⟨rfl, rfl⟩
 have hb : ((b.toNat : Int)).toNat.toUInt8 = b := by simp
 rw [hb]
 have hc := Lib.contains_iff_indexByte [0, 10] b
 refine ⟨⟨_, rfl, ?_⟩, rfl⟩
 have e1 : (0 ≤ Lib.indexByte (⟨#[0, 10]⟩ : ByteArray).data.toList b) ↔ ([0, 10] : List UInt8).contains b = true := by rw [hc]; simp
 rw [e1]
 simp
def NoH (s : ByteArray) (k : Nat) : Prop := has ((tl s).take k) = false
theorem has_iff (l : List UInt8) : has l = false ↔ 0 ∉ l ∧ 10 ∉ l := by unfold has; simp
theorem noH_more (s : ByteArray) (k n : Nat) (h : NoH s k) (hn : has (((tl s).drop k).take n) = false) : NoH s (k + n) := by
 unfold NoH at h ⊢
 rw [has_iff] at h hn ⊢
 rw [List.take_add]
 exact ⟨fun hm => (List.mem_append.1 hm).elim h.1 hn.1, fun hm => (List.mem_append.1 hm).elim h.2 hn.2⟩
theorem noH_end (s : ByteArray) (h : NoH s s.size) : has (tl s) = false := by
 unfold NoH at h
 rwa [List.take_of_length_le (by rw [tl_len]; omega)] at h
theorem has_at (s : ByteArray) (k : Nat) (h : k < s.size) (hb : s[k] = 0 ∨ s[k] = 10) : has (tl s) = true := by
 have hm : s[k] ∈ tl s := List.getElem_mem (by rw [tl_len]; exact h)
 unfold has
 rcases hb with e | e <;> rw [e] at hm
 ·simp [hm]
 ·simp [hm]
theorem has_one (s : ByteArray) (k : Nat) (h : k < s.size) (hb : ¬ (s[k] = 0 ∨ s[k] = 10)) : has (((tl s).drop k).take 1) = false := by
 rw [drop_at s k h]
 unfold has
 simp
 exact ⟨fun e => hb (.inl e.symm), fun e => hb (.inr e.symm)⟩
theorem has_high (s : ByteArray) (pos : Nat) (h : pos < s.size) (hh : 128 ≤ s[pos].toNat) : has (((tl s).drop pos).take (Utf8.decode s pos).2) = false := by
 have key : ∀ b ∈ ((tl s).drop pos).take (Utf8.decode s pos).2, 128 ≤ b.toNat := by
  intro b hm
  obtain ⟨j, hj, e⟩ := List.mem_iff_getElem.1 hm
  rw [List.length_take, List.length_drop, tl_len] at hj
  rw [List.getElem_take, List.getElem_drop] at e
  have e2 : s[pos + j]'(by omega) = b := e
  by_cases h0 : j = 0
  ·subst h0; rw [← e2]; exact hh
  ·have := (decode_cont s pos j (by omega) (by omega)).2
   rwa [get_eq s (pos + j) (by omega), e2] at this
 unfold has
 rw [Bool.or_eq_false_iff]
 constructor
 ·cases hc : (((tl s).drop pos).take (Utf8.decode s pos).2).contains 0 with
  | false => rfl
  | true => exact absurd (key 0 (by simpa using hc)) (by decide)
 ·cases hc : (((tl s).drop pos).take (Utf8.decode s pos).2).contains 10 with
  | false => rfl
  | true => exact absurd (key 10 (by simpa using hc)) (by decide)
set_option maxRecDepth 100000 in
set_option maxHeartbeats 2000000 in
theorem iany_short (s : ByteArray) (hs : s.size ≤ 8) (w : World) :
  Calls Tryz.prog 154 #[.string s, .string ⟨#[0, 10]⟩] w fun e w' => (∃ n : Int, e = .returned (.int .i64 n) ∧ (0 ≤ n ↔ has (tl s) = true)) ∧ Below w.heap.size w w' := by
 have h8 : decide ((8 : Int) < (s.size : Int)) = false := decide_eq_false (by omega)
 have kA := fun w => Tryz.strings_shouldUseASCIISet s.size w
 simp only [h8] at kA
 clear h8
 go_enter Tryz.func154, Tryz.ntmps154
 go_wp2_with (go_at_call 179; refine (kA _).mono ?_; rintro e w0 ⟨rfl, hw0⟩)
 obtain rfl : w0 = w := hw0
 go_wp2
 go_loopw [] (fun wr => ∃ pos : Nat, pos ≤ s.size ∧ wr.heap[w0.heap.size]? = some (.stringIter s pos) ∧ Below w0.heap.size w0 wr ∧ Hid (NoH s pos)) (fun wr => s.size - wr.iterPos w0.heap.size)
 case atStart => exact ⟨0, Nat.zero_le _, World.iter_heap w0 s 0, (Below.refl _ w0).alloc (Nat.le_refl _) _, rfl⟩
 case round =>
  obtain ⟨pos, hp, hit, hB, HN⟩ := hrel
  have hsz : w0.heap.size < wr.heap.size := (Array.getElem?_eq_some_iff.1 hit).1
  have hme : wr.iterPos w0.heap.size = pos := by simp only [World.iterPos, hit]
  by_cases hlt : pos < s.size
  ·by_cases ha : (s[pos]'hlt).toNat < 128
   ·have hnx := fun ty => Lib.run_next_ascii_at (P := Tryz.prog) wr w0.heap.size s pos ty hit hlt ha
    have hit1 := Lib.iterAt_heap wr w0.heap.size s pos (pos + 1) hit
    have hB1 := Lib.below_iterAt hB (Nat.le_refl _) s (pos + 1)
    have kL := fun w => irune_low s[pos] ha w
    generalize wr.iterAt w0.heap.size s (pos + 1) = W1 at hnx hit1 hB1
    by_cases hb : s[pos] = 0 ∨ s[pos] = 10
    ·have HF := hide' (has_at s pos hlt hb)
     simp only [hb, iff_true] at kL
     clear hb HN ha
     go_wp2_with fail
     refine (kL _).mono ?_
     rintro e w1 ⟨⟨n, rfl, hn⟩, rfl⟩
     go_wp2
     go_ret
     exact ⟨⟨pos, rfl, iff_of_true (by omega) HF.out⟩, hB1⟩
    ·have HN1 := hide' (noH_more s pos 1 HN.out (has_one s pos hlt hb))
     simp only [hb, iff_false] at kL
     clear hb HN ha
     go_wp2_with fail
     refine (kL _).mono ?_
     rintro e w1 ⟨⟨n, rfl, hn⟩, rfl⟩
     go_wp2
     exact ⟨⟨pos + 1, by omega, hit1, hB1, HN1⟩, by rw [hme]; simp only [World.iterPos, hit1]; omega⟩
   ·have hh : 128 ≤ (s[pos]'hlt).toNat := by omega
    have hnx := fun ty => Lib.run_next_any_at (P := Tryz.prog) wr w0.heap.size s pos ty hit hlt
    have hd := decode_high s pos hlt hh
    have hw2 := width_le s pos hlt
    have HN1 := hide' (noH_more s pos _ HN.out (has_high s pos hlt hh))
    have hit1 := Lib.iterAt_heap wr w0.heap.size s pos (pos + (Utf8.decode s pos).2) hit
    have hB1 := Lib.below_iterAt hB (Nat.le_refl _) s (pos + (Utf8.decode s pos).2)
    generalize wr.iterAt w0.heap.size s (pos + (Utf8.decode s pos).2) = W1 at hnx hit1 hB1
    generalize (Utf8.decode s pos).2 = wd at hw2 HN1 hit1 hd
    generalize (Utf8.decode s pos).1 = r at hd hnx
    have kH := fun w => irune_high r (by omega) w
    clear ha hh HN
    go_wp2_with fail
    refine (kH _).mono ?_
    rintro e w1 ⟨rfl, hb1⟩
    have hs1 : w0.heap.size < W1.heap.size := (Array.getElem?_eq_some_iff.1 hit1).1
    have hit2 : w1.heap[w0.heap.size]? = some (.stringIter s (pos + wd)) := (hb1.block _ hs1).trans hit1
    have hB2 := hB1.trans (hb1.mono hB1.size)
    clear hit1 hb1 hB1
    go_wp2
    exact ⟨⟨pos + wd, hw2, hit2, hB2, HN1⟩, by rw [hme]; simp only [World.iterPos, hit2]; omega⟩
  ·obtain rfl : pos = s.size := by omega
   have hnx := fun ty => Lib.run_next_end_at (P := Tryz.prog) wr w0.heap.size s s.size ty hit hlt
   have HF := hide' (noH_end s HN.out)
   clear HN
   go_wp2
   go_ret
   exact ⟨⟨-1, rfl, by rw [HF.out]; simp⟩, hB⟩
end Go.Proofs.YtabmnkddmdffkaaGreatDoor
namespace Go.Proofs.YtabmnkddmdffkaaGreatDoor
open Go.RowKit Go.Shelf
theorem list_ne (a b : ByteArray) (h : a ≠ b) : (a.toList == b.toList) = false := beq_eq_false_iff_ne.2 fun e => h (tl_inj _ _ (by unfold tl; rw [← Lib.toList_data, ← Lib.toList_data]; exact e))
theorem tw_mem (K : List (List UInt8)) (x : List UInt8) (h : x ∈ K) : x.length ≤ tw K := by
 induction K with
 | nil => cases h
 | cons y r ih =>
  rcases List.mem_cons.1 h with rfl | h
  ·simp only [tw]; omega
  ·have := ih h; simp only [tw]; omega
theorem zero51 : (Tryz.prog.info? 251).map (fun i => (i.zero, i.size)) = some (some (.agg (Array.replicate 256 (.bool false))), 256) := by kernel_rfl
theorem indexAny_has (l : List UInt8) : 0 ≤ Lib.indexAny l [0, 10] ↔ has l = true := by
 induction l with
 | nil => simp [Lib.indexAny, has]
 | cons b r ih =>
  have hge := Lib.indexAny_ge [0, 10] r
  by_cases hb : ([0, 10] : List UInt8).contains b = true
  ·have e1 : Lib.indexAny (b :: r) [0, 10] = 0 := by rw [Lib.indexAny, if_pos hb]
   rw [e1]
   have hb' : b = 0 ∨ b = 10 := by simpa using hb
   have e2 : has (b :: r) = true := by unfold has; rcases hb' with rfl | rfl <;> simp
   rw [e2]
   simp
  ·have hb' : ¬ (b = 0 ∨ b = 10) := by simpa using hb
   have e2 : has (b :: r) = has r := by
    unfold has
    have h0 : ((0 : UInt8) == b) = false := beq_eq_false_iff_ne.2 fun e => hb' (.inl e.symm)
    have h1 : ((10 : UInt8) == b) = false := beq_eq_false_iff_ne.2 fun e => hb' (.inr e.symm)
    rw [List.contains_cons, List.contains_cons, h0, h1, Bool.false_or, Bool.false_or]
   rw [e2, ← ih, Lib.indexAny, if_neg hb]
   by_cases hm : Lib.indexAny r [0, 10] = -1
   ·simp [hm]
   ·rw [if_neg (by simpa using hm)]
    omega
theorem small2 : ∀ (j : Nat) b, (⟨#[0, 10]⟩ : ByteArray).data.toList[j]? = some b → b.toNat < 128 := by
 intro j b h
 have hm : b ∈ ([0, 10] : List UInt8) := List.mem_of_getElem? h
 rcases (by simpa using hm : b = 0 ∨ b = 10) with rfl | rfl <;> decide
theorem iany_any (s : ByteArray) (hs : s.size ≤ 1000000) (w : World) :
  Calls Tryz.prog 154 #[.string s, .string ⟨#[0, 10]⟩] w fun e w' => (∃ n : Int, e = .returned (.int .i64 n) ∧ (0 ≤ n ↔ has (tl s) = true)) ∧ Below w.heap.size w w' := by
 by_cases h8 : s.size ≤ 8
 ·exact iany_short s h8 w
 ·refine (Tryz.strings_IndexAny_long (zero_of_info zero51).1 s ⟨#[0, 10]⟩ w (by decide) (by omega) (by omega) (by decide) small2).mono ?_
  rintro e w' ⟨rfl, rfl⟩
  exact ⟨⟨_, rfl, indexAny_has _⟩, ((Below.refl _ _).alloc (Nat.le_refl _) _).alloc (by simp) _⟩
theorem contains_any (s : ByteArray) (hs : s.size ≤ 1000000) (w : World) :
  Calls Tryz.prog 134 #[.string s, .string ⟨#[0, 10]⟩] w fun e w' => e = .returned (.bool (has (tl s))) ∧ Below w.heap.size w w' := by
 have q := fun w => iany_any s hs w
 cases hh : has (tl s) with
 | true =>
  simp only [hh, iff_true] at q
  go_enter Tryz.func134, Tryz.ntmps134
  go_wp2_with fail
  refine (q _).mono ?_
  rintro e w1 ⟨⟨n, rfl, hn⟩, hb⟩
  go_wp2
  go_ret
  exact ⟨rfl, hb⟩
 | false =>
  simp only [hh, Bool.false_eq_true, iff_false] at q
  go_enter Tryz.func134, Tryz.ntmps134
  go_wp2_with fail
  refine (q _).mono ?_
  rintro e w1 ⟨⟨n, rfl, hn⟩, hb⟩
  have hd : decide (0 ≤ n) = false := decide_eq_false (by omega)
  go_wp2
  go_ret
  exact ⟨by first | rfl | (rw [← hd]; rfl), hb⟩
theorem vname_any (x : List UInt8) (hx : x.length ≤ 1000000) (w : World) :
  Calls Tryz.prog 108 #[sv x] w fun e w' => e = .returned (.bool (okn x)) ∧ Below w.heap.size w w' := by
 have hsz := mk_size x
 rw [okn_has]
 by_cases h : x.length ≤ 255
 ·have q := fun w => contains_any (mk x) (by omega) w
  rw [tl_mk x] at q
  rw [decide_eq_true h, Bool.true_and]
  have k1 : ((mk x).size : Int) ≤ 255 := by omega
  have k2 : (x.length : Int) ≤ 255 := by omega
  generalize has x = b at q
  clear hsz k1
  go_enter Tryz.func108, Tryz.ntmps108
  go_wp2_with fail
  refine (q _).mono ?_
  rintro e w1 ⟨rfl, hb⟩
  go_wp2
  go_ret
  exact ⟨rfl, hb⟩
 ·rw [decide_eq_false h, Bool.false_and]
  have k1 : ¬ (x.length : Int) ≤ 255 := by omega
  clear hsz
  go_enter Tryz.func108, Tryz.ntmps108
  go_wp2
  go_ret
  exact ⟨rfl, Below.refl _ _⟩
theorem all_take_next (K : List (List UInt8)) (k : Nat) (h : k < K.length) : (K.take (k + 1)).all okn = ((K.take k).all okn && okn (K.getD k [])) := by
 rw [List.take_succ_eq_append_getElem h, List.all_append, List.getD_eq_getElem?_getD, List.getElem?_eq_getElem h]
 simp
theorem all_no (K : List (List UInt8)) (k : Nat) (h : k < K.length) (hn : okn (K.getD k []) = false) : K.all okn = false := by
 rw [← List.take_append_drop (k + 1) K, List.all_append, all_take_next K k h, hn]
 simp
theorem cut_mem_len (s : ByteArray) (k : Nat) : ((cut (tl s)).getD k []).length ≤ s.size + 1 := by
 by_cases h : k < (cut (tl s)).length
 ·have hm : (cut (tl s)).getD k [] ∈ cut (tl s) := by rw [List.getD_eq_getElem?_getD, List.getElem?_eq_getElem h]; exact List.getElem_mem h
  have := tw_mem _ _ hm
  rw [cut_tw, tl_len] at this
  exact this
 ·rw [List.getD_eq_getElem?_getD, List.getElem?_eq_none (by omega)]
  exact Nat.zero_le _
theorem valid_long (s : ByteArray) (w : World) (h : 1000 < s.size) (hs : s.size ≤ 1000000) :
  Calls Tryz.prog 77 #[.string s] w fun e w' => e = .returned (.bool (valid (tl s))) ∧ Below w.heap.size w w' := by
 have hv : valid (tl s) = false := by unfold valid; rw [tl_len, decide_eq_false (by omega)]; rfl
 rw [hv]
 have k1 : (1000 : Int) < s.size := by omega
 go_enter Tryz.func77, Tryz.ntmps77
 go_wp2
 go_ret
 exact ⟨rfl, Below.refl _ _⟩
set_option maxRecDepth 100000 in
set_option maxHeartbeats 2000000 in
theorem valid_short (s : ByteArray) (w : World) (h : s.size ≤ 1000) :
  Calls Tryz.prog 77 #[.string s] w fun e w' => e = .returned (.bool (valid (tl s))) ∧ Below w.heap.size w w' := by
 have k1 : ¬ (1000 : Int) < s.size := by omega
 have q0 := clean_any s (by omega)
 by_cases hc : clean (tl s) = tl s
 ·have hv : valid (tl s) = (cut (tl s)).all okn := by unfold valid; rw [tl_len, decide_eq_true h, decide_eq_true hc]; rfl
  have HV := hide' hv
  rw [hc, mk_tl] at q0
  clear hv hc
  have HL := hide' (cut_mem_len s)
  have q1 := fun w => names_any s (by omega) w
  have hKl := cut_len (tl s)
  rw [tl_len] at hKl
  go_enter Tryz.func77, Tryz.ntmps77
  go_wp2_with fail
  refine (q0 _).mono ?_
  rintro e w0 ⟨rfl, hB0⟩
  go_wp2_with fail
  refine (q1 _).mono ?_
  rintro e w1 ⟨v1, rfl, hrow1, hb1⟩
  have hB1 := hB0.trans (hb1.mono hB0.size)
  obtain ⟨g, cap, rfl, hc1, hc2, hg, hcell, _⟩ := row_form hrow1 (cut_ne _)
  clear hrow1 hB0 hb1 q0 q1
  generalize cut (tl s) = K at hKl hc1 hcell HV HL
  have HC := hide' hcell
  clear hcell
  have hsz1 := hB1.size
  go_wp2
  go_loopw [17] (fun i wr => ∃ k : Nat, k ≤ K.length ∧ i = .int .i64 k ∧ Below w1.heap.size w1 wr ∧ Hid ((K.take k).all okn = true)) (fun i _ => K.length - (intOf i).toNat)
  case atStart => exact ⟨0, Nat.zero_le _, rfl, Below.refl _ _, rfl⟩
  case round =>
   obtain ⟨k, hk, rfl, hB, HA⟩ := hrel
   by_cases hlt : k < K.length
   ·have c1 := (hB.cell (p := ⟨g, k, none⟩) hg).trans (HC.out k hlt)
    have hxl := HL.out k
    have q := fun w => vname_any (K.getD k []) (by omega) w
    cases ho : okn (K.getD k []) with
    | true =>
     have HA1 : Hid ((K.take (k + 1)).all okn = true) := by show _ = _; rw [all_take_next K k hlt, HA.out, ho]; rfl
     simp only [ho] at q
     clear ho HA
     generalize K.getD k [] = x at c1 q
     go_wp2_with (go_at_call 108; refine (q _).mono ?_; rintro e w2 ⟨rfl, hb2⟩)
     exact ⟨⟨k + 1, by omega, by go_num, hB.trans (hb2.mono hB.size), HA1⟩, by simp [intOf]; omega⟩
    | false =>
     have HF := hide' (HV.out.trans (all_no K k hlt ho))
     simp only [ho] at q
     clear ho HA
     generalize K.getD k [] = x at c1 q
     go_wp2_with (go_at_call 108; refine (q _).mono ?_; rintro e w2 ⟨rfl, hb2⟩)
     go_ret
     exact ⟨by rw [HF.out]; rfl, hB1.trans ((hB.trans (hb2.mono hB.size)).mono hsz1)⟩
   ·have hke : K.take k = K := List.take_of_length_le (by omega)
    have HF : Hid (valid (tl s) = true) := by show _ = _; rw [HV.out, ← hke]; exact HA.out
    clear hke HA
    go_wp2
    go_ret
    exact ⟨by rw [HF.out]; rfl, hB1.trans (hB.mono hsz1)⟩
 ·have hv : valid (tl s) = false := by unfold valid; rw [decide_eq_false hc, Bool.and_false, Bool.false_and]
  rw [hv]
  have hne : mk (clean (tl s)) ≠ s := fun e => hc (by rw [← tl_mk (clean (tl s)), e])
  have hn2 := list_ne _ _ hne
  generalize mk (clean (tl s)) = c at q0 hn2
  clear hv hne hc
  go_enter Tryz.func77, Tryz.ntmps77
  go_wp2_with fail
  refine (q0 _).mono ?_
  rintro e w0 ⟨rfl, hB0⟩
  go_wp2
  go_ret
  exact ⟨rfl, hB0⟩
theorem valid_any (s : ByteArray) (w : World) (hs : s.size ≤ 1000000) :
  Calls Tryz.prog 77 #[.string s] w fun e w' => e = .returned (.bool (valid (tl s))) ∧ Below w.heap.size w w' := by
 by_cases h : s.size ≤ 1000
 ·exact valid_short s w h
 ·exact valid_long s w (by omega) hs
end Go.Proofs.YtabmnkddmdffkaaGreatDoor
namespace Go.Proofs.YtabmnkddmdffkaaGreatDoor
open Go.RowKit Go.Shelf
attribute [local go_sem] Oper.semAt_some
structure Glo (B : Nat) (w : World) (E : Addr) : Prop where
 c0 : w.cell? ⟨1, 0, none⟩ = some (.iface 289 (.pointer (some E)))
 c1 : w.cell? ⟨2, 0, none⟩ = some (.iface 146 (.agg #[.pointer (some ⟨12, 62, none⟩)]))
 lo : 2 < B
theorem Glo.keep {B : Nat} {E : Addr} {w w' : World} (h : Glo B w E) (hb : Below B w w') : Glo B w' E :=
 ⟨(hb.cell (p := ⟨1, 0, none⟩) (by have := h.lo; simp only; omega)).trans h.c0, (hb.cell (p := ⟨2, 0, none⟩) h.lo).trans h.c1, h.lo⟩
def FltN (w : World) (b : Nat) (E : Addr) : Prop := ∃ p, w.heap[b]? = some (.cells #[.string p, .iface 289 (.pointer (some E))] 107 (0, 0))
def isDir (e : En) : Bool := e.nd.dir
def rootAt (b : Nat) : En := ⟨b, .slice none 0 0, ⟨true, 0, []⟩⟩
def LkRes (N : Nat) (w' : World) (r : Ending) (E : Addr) : Lk En → Prop
 | .bad n => ∃ b, r = .returned (.tuple #[.pointer none, .iface 105 (.pointer (some ⟨b, 0, none⟩))]) ∧ Flt w' b n
 | .non => ∃ b, r = .returned (.tuple #[.pointer none, .iface 105 (.pointer (some ⟨b, 0, none⟩))]) ∧ FltN w' b E
 | .rt => ∃ b, N ≤ b ∧ r = .returned (.tuple #[.pointer (some ⟨b, 0, none⟩), .nilIface]) ∧ NodeAt w' (rootAt b)
 | .is e => r = .returned (.tuple #[.pointer (some ⟨e.blk, 0, none⟩), .nilIface])
def lookV (L : Ents) (p : Bs) : Lk En := if valid p then lookP isDir L p else .bad 16
theorem eq_ptr_nil (b : Nat) (w : World) : (binOp .eql 97 (.pointer (some ⟨b, 0, none⟩)) (.pointer none)).run Tryz.prog w = .ok (.bool false) w := by kernel_rfl
theorem eq_nil_nil (w : World) : (binOp .eql 97 (.pointer none) (.pointer none)).run Tryz.prog w = .ok (.bool true) w := by kernel_rfl
theorem box_below {W W' : World} {b : Nat} {t : TypeId} {v : Value} (h : Boxed W b t v) (hb : Below W.heap.size W W') : Boxed W' b t v := (hb.block b (lt_of_block h)).trans h
def lk0 (w : World) (A : Nat) (p : Bs) : World := (((w.alloc (.cells #[.pointer (some ⟨A, 0, none⟩)] 30)).alloc (.cells #[.string (mk p)] 9)).alloc (.cells #[.pointer none] 97)).alloc (.cells #[.nilIface] 62)
theorem lk0_size (w : World) (A : Nat) (p : Bs) : (lk0 w A p).heap.size = w.heap.size + 4 := by simp [lk0]
theorem lk0_below (w : World) (A : Nat) (p : Bs) : Below w.heap.size w (lk0 w A p) := ((((Below.refl _ w).alloc (Nat.le_refl _) _).alloc (by simp) _).alloc (by simp; omega) _).alloc (by simp; omega) _
theorem lk0_f (w : World) (A : Nat) (p : Bs) : Boxed (lk0 w A p) w.heap.size 30 (.pointer (some ⟨A, 0, none⟩)) := (((Boxed.new w 30 _).alloc _).alloc _).alloc _
theorem lk0_p (w : World) (A : Nat) (p : Bs) : Boxed (lk0 w A p) (w.heap.size + 1) 9 (.string (mk p)) := by
 have := ((Boxed.new (w.alloc (.cells #[.pointer (some ⟨A, 0, none⟩)] 30)) 9 (.string (mk p))).alloc (.cells #[.pointer none] 97)).alloc (.cells #[.nilIface] 62)
 rw [World.size_alloc] at this
 exact this
theorem lk0_n (w : World) (A : Nat) (p : Bs) : Boxed (lk0 w A p) (w.heap.size + 1 + 1) 97 (.pointer none) := by
 have := (Boxed.new ((w.alloc (.cells #[.pointer (some ⟨A, 0, none⟩)] 30)).alloc (.cells #[.string (mk p)] 9)) 97 (.pointer none)).alloc (.cells #[.nilIface] 62)
 rw [World.size_alloc, World.size_alloc] at this
 exact this
theorem lk0_e (w : World) (A : Nat) (p : Bs) : Boxed (lk0 w A p) (w.heap.size + 1 + 1 + 1) 62 .nilIface := by
 have := Boxed.new (((w.alloc (.cells #[.pointer (some ⟨A, 0, none⟩)] 30)).alloc (.cells #[.string (mk p)] 9)).alloc (.cells #[.pointer none] 97)) 62 .nilIface
 rw [World.size_alloc, World.size_alloc, World.size_alloc] at this
 exact this
theorem res57 (tmps : Array Value) (Rn Re : Nat) (x y : Value) (W : World) (h4 : tmps.getD 4 undef = .pointer (some ⟨Rn, 0, none⟩)) (h5 : tmps.getD 5 undef = .pointer (some ⟨Re, 0, none⟩)) (cx : W.cell? ⟨Rn, 0, none⟩ = some x) (cy : W.cell? ⟨Re, 0, none⟩ = some y) :
  (results Tryz.f72 tmps).run Tryz.prog W = .ok (.tuple #[x, y]) W := by
 simp only [Array.getD_eq_getD_getElem?] at h4 h5
 simp [results, Tryz.results72, go_sem, h4, h5, cx, cy]
def fltW (W : World) (Rn Re : Nat) (p : ByteArray) (x : Value) : World :=
 ((W.setCell ⟨Rn, 0, none⟩ (.pointer none)).setCell ⟨Re, 0, none⟩ (.iface 105 (.pointer (some ⟨W.heap.size, 0, none⟩)))).alloc (.cells #[.string p, x] 107)
theorem fltW_n {W : World} {Rn Re : Nat} {p : ByteArray} {x v : Value} (hn : Boxed W Rn 97 v) (hne : Rn ≠ Re) : Boxed (fltW W Rn Re p x) Rn 97 (.pointer none) :=
 Boxed.alloc ((Below.heap_setCell _ _ _ _ hne).trans (hn.set (.pointer none))) _
theorem fltW_e {W : World} {Rn Re : Nat} {p : ByteArray} {x v : Value} (he : Boxed W Re 62 v) (hne : Rn ≠ Re) : Boxed (fltW W Rn Re p x) Re 62 (.iface 105 (.pointer (some ⟨W.heap.size, 0, none⟩))) := by
 have h1 : Boxed (W.setCell ⟨Rn, 0, none⟩ (.pointer none)) Re 62 v := (Below.heap_setCell _ _ _ _ hne.symm).trans he
 exact Boxed.alloc (h1.set _) _
theorem fltW_f (W : World) (Rn Re : Nat) (p : ByteArray) (x : Value) : (fltW W Rn Re p x).heap[W.heap.size]? = some (.cells #[.string p, x] 107 (0, 0)) := by
 obtain ⟨X, hX⟩ : ∃ X, X = (W.setCell ⟨Rn, 0, none⟩ (.pointer none)).setCell ⟨Re, 0, none⟩ (.iface 105 (.pointer (some ⟨W.heap.size, 0, none⟩))) := ⟨_, rfl⟩
 have hz : X.heap.size = W.heap.size := by rw [hX]; simp
 unfold fltW
 rw [← hX, ← hz]
 exact World.alloc_heap_new X _
theorem fltW_below {B : Nat} {w W : World} {Rn Re : Nat} (p : ByteArray) (x : Value) (h : Below B w W) (h1 : B ≤ Rn) (h2 : B ≤ Re) (hB : B ≤ W.heap.size) : Below B w (fltW W Rn Re p x) :=
 ((h.setCell (p := ⟨Rn, 0, none⟩) h1 _).setCell (p := ⟨Re, 0, none⟩) h2 _).alloc (by simpa using hB) _
theorem fltW_size (W : World) (Rn Re : Nat) (p : ByteArray) (x : Value) : (fltW W Rn Re p x).heap.size = W.heap.size + 1 := by simp [fltW]
set_option maxRecDepth 100000 in
set_option maxHeartbeats 2000000 in
theorem look_bad (A : Nat) (p : Bs) (w : World) (E : Addr) (hp : p.length ≤ 1000000) (hv : valid p = false) :
  Calls Tryz.prog 72 #[.pointer (some ⟨A, 0, none⟩), .string (mk p)] w fun r w' => LkRes w.heap.size w' r E (.bad 16) ∧ Below w.heap.size w w' := by
 have q := fun w => valid_any (mk p) w (by rw [mk_size]; exact hp)
 simp only [tl_mk p, hv] at q
 refine (callsIn_wide (n := 5)).1 ?_
 refine callsIn_of_wp_marks Tryz.func72 rfl trivial ?_ rfl
 simp only [Tryz.ntmps72, List.size_toArray, List.length_cons, List.length_nil, Nat.reduceAdd, Nat.reduceSub, Array.replicate_succ, Array.replicate_zero, List.push_toArray, List.append_toArray, List.nil_append, List.cons_append]
 gi_wp2_with (refine ⟨trivial, ?_⟩; gi_at_call 77; refine (callsIn_wide.2 (q _)).mono ?_; rintro e w1 ⟨rfl, hb1⟩)
 have hb1 : Below (lk0 w A p).heap.size (lk0 w A p) w1 := hb1
 have hz := lk0_size w A p
 have hB : Below w.heap.size w w1 := (lk0_below w A p).trans (hb1.mono (by omega))
 have bp := box_below (lk0_p w A p) hb1
 have bn := box_below (lk0_n w A p) hb1
 have be := box_below (lk0_e w A p) hb1
 have hs1 : w.heap.size + 4 ≤ w1.heap.size := by have := hb1.size; omega
 have cp := bp.cell
 have cn := bn.cell
 have ce := be.cell
 have fn := bn.frozen
 have fe := be.frozen
 have h2 : w.heap.size + 1 + 1 < w1.heap.size := by omega
 have h3 : w.heap.size + 1 + 1 + 1 < w1.heap.size := by omega
 have be2 : ∀ v, Boxed (w1.setCell ⟨w.heap.size + 1 + 1, 0, none⟩ v) (w.heap.size + 1 + 1 + 1) 62 .nilIface := fun v => (Below.heap_setCell _ _ _ _ (by simp)).trans be
 have ce2 := fun v => (be2 v).cell
 have fe2 := fun v => (be2 v).frozen
 have ce3 := fun v o => ((be2 v).alloc o).cell
 have fe3 := fun v o => ((be2 v).alloc o).frozen
 clear hb1 hz
 gi_region
 gi_wp2
 have hn' := fltW_n (Rn := w.heap.size + 1 + 1) (Re := w.heap.size + 1 + 1 + 1) (p := mk p) (x := .iface 31 (.int .i64 16)) bn (by omega)
 have he' := fltW_e (Rn := w.heap.size + 1 + 1) (Re := w.heap.size + 1 + 1 + 1) (p := mk p) (x := .iface 31 (.int .i64 16)) be (by omega)
 exact ⟨_, res57 _ (w.heap.size + 1 + 1) (w.heap.size + 1 + 1 + 1) _ _ _ rfl rfl hn'.cell he'.cell, ⟨w1.heap.size, rfl, _, fltW_f w1 (w.heap.size + 1 + 1) (w.heap.size + 1 + 1 + 1) (mk p) _⟩, (fltW_below _ _ hB (by omega) (by omega) (by omega)).drew⟩
end Go.Proofs.YtabmnkddmdffkaaGreatDoor
