/- A file system in memory: its own block, the map of its nodes, the nodes and their bytes; what a look-up, a store and a deletion do. -/
import Derived.Test.YtamohpcdchhbbaaGreatDoorMem
namespace Go.Proofs.YtamohpcdchhbbaaGreatDoor
open Go.RowKit Go.Maps

/-- how a pointer to a node reads: by its block -/
def ptrElem : Value → Option (DataW Unit × List MemPlace)
  | .pointer none => some (.nil, [])
  | .pointer (some ⟨b, 0, none⟩) => some (.lit (.int .u64 b), [])
  | _ => none
theorem ptrElem_lit {v : Value} {b : Nat} {ps : List MemPlace} (h : ptrElem v = some (.lit (.int .u64 b), ps)) : v = .pointer (some ⟨b, 0, none⟩) := by
  unfold ptrElem at h
  split at h
  · cases h
  · rename_i b'
    simp only [Option.some.injEq, Prod.mk.injEq, DataW.lit.injEq, Lit.int.injEq, true_and] at h
    obtain ⟨h, _⟩ := h
    have : b' = b := by omega
    rw [this]
  · cases h
theorem ptrElem_nil {v : Value} {ps : List MemPlace} (h : ptrElem v = some (.nil, ps)) : v = .pointer none := by
  unfold ptrElem at h
  split at h
  · rfl
  · simp at h
  · cases h
theorem ptrElem_inv {v : Value} {z : DataW Unit × List MemPlace} (h : ptrElem v = some z) : ∃ o : Option Nat, v = .pointer (o.map fun b => ⟨b, 0, none⟩) := by
  unfold ptrElem at h
  split at h
  · exact ⟨none, rfl⟩
  · exact ⟨some _, rfl⟩
  · cases h

/-- an entry: its node's block, the slice of its bytes, the node -/
structure En where
  blk : Nat
  dv : Value
  nd : Nd
abbrev Ents := List (Bs × En)
def blks (L : Ents) : List (Bs × Nat) := L.map fun e => (e.1, e.2.blk)
def nds (L : Ents) : List (Bs × Nd) := L.map fun e => (e.1, e.2.nd)
def NodeAt (w : World) (e : En) : Prop := w.heap[e.blk]? = some (.cells #[.bool e.nd.dir, .int .i64 e.nd.time, e.dv] 76 (0, 0))
def Fb (w : World) (A M : Nat) (wt clk rm : Int) : Prop := w.heap[A]? = some (.cells #[.map (some M), .int .i64 wt, .int .i64 clk, .int .i64 rm] 68 (0, 0))
def Mp (w : World) (M : Nat) (L : Ents) : Prop := w.ownsMap Tryz.prog 9 ptrElem M L.length (datum (blks L))

theorem Fb.lt {w : World} {A M : Nat} {wt clk rm : Int} (h : Fb w A M wt clk rm) : A < w.heap.size := lt_of_block h
theorem Fb.c0 {w : World} {A M : Nat} {wt clk rm : Int} (h : Fb w A M wt clk rm) : w.cell? ⟨A, 0, none⟩ = some (.map (some M)) := by unfold Fb at h; rw [Lib.cell_of_heap h]; rfl
theorem Fb.c1 {w : World} {A M : Nat} {wt clk rm : Int} (h : Fb w A M wt clk rm) : w.cell? ⟨A, 1, none⟩ = some (.int .i64 wt) := by unfold Fb at h; rw [Lib.cell_of_heap h]; rfl
theorem Fb.c2 {w : World} {A M : Nat} {wt clk rm : Int} (h : Fb w A M wt clk rm) : w.cell? ⟨A, 2, none⟩ = some (.int .i64 clk) := by unfold Fb at h; rw [Lib.cell_of_heap h]; rfl
theorem Fb.c3 {w : World} {A M : Nat} {wt clk rm : Int} (h : Fb w A M wt clk rm) : w.cell? ⟨A, 3, none⟩ = some (.int .i64 rm) := by unfold Fb at h; rw [Lib.cell_of_heap h]; rfl
theorem Fb.fz {w : World} {A M : Nat} {wt clk rm : Int} (h : Fb w A M wt clk rm) (j : Nat) : w.frozen? ⟨A, j, none⟩ = false := Lib.frozen_of_heap h j
theorem set_row {w : World} {A : Nat} {cs : Array Value} {T : TypeId} (h : w.heap[A]? = some (.cells cs T (0, 0))) (j : Nat) (v : Value) :
    (w.setCell ⟨A, j, none⟩ v).heap[A]? = some (.cells (cs.setIfInBounds j v) T (0, 0)) := by
  have hlt := lt_of_block h
  have h' : w.heap[A] = .cells cs T (0, 0) := by simpa [Array.getElem?_eq_getElem hlt] using h
  show (w.heap.modify A _)[A]? = _
  rw [Array.getElem?_eq_getElem (by simpa using hlt), Array.getElem_modify_self, h']
  rfl
theorem Fb.set1 {w : World} {A M : Nat} {wt clk rm : Int} (h : Fb w A M wt clk rm) (v : Int) : Fb (w.setCell ⟨A, 1, none⟩ (.int .i64 v)) A M v clk rm := set_row h 1 _
theorem Fb.set2 {w : World} {A M : Nat} {wt clk rm : Int} (h : Fb w A M wt clk rm) (v : Int) : Fb (w.setCell ⟨A, 2, none⟩ (.int .i64 v)) A M wt v rm := set_row h 2 _
theorem NodeAt.lt {w : World} {e : En} (h : NodeAt w e) : e.blk < w.heap.size := lt_of_block h
theorem NodeAt.c0 {w : World} {e : En} (h : NodeAt w e) : w.cell? ⟨e.blk, 0, none⟩ = some (.bool e.nd.dir) := by unfold NodeAt at h; rw [Lib.cell_of_heap h]; rfl
theorem NodeAt.c1 {w : World} {e : En} (h : NodeAt w e) : w.cell? ⟨e.blk, 1, none⟩ = some (.int .i64 e.nd.time) := by unfold NodeAt at h; rw [Lib.cell_of_heap h]; rfl
theorem NodeAt.c2 {w : World} {e : En} (h : NodeAt w e) : w.cell? ⟨e.blk, 2, none⟩ = some e.dv := by unfold NodeAt at h; rw [Lib.cell_of_heap h]; rfl
theorem NodeAt.fz {w : World} {e : En} (h : NodeAt w e) (j : Nat) : w.frozen? ⟨e.blk, j, none⟩ = false := Lib.frozen_of_heap h j
theorem NodeAt.set1 {w : World} {e : En} (h : NodeAt w e) (t : Int) : NodeAt (w.setCell ⟨e.blk, 1, none⟩ (.int .i64 t)) { e with nd := { e.nd with time := t } } := set_row h 1 _

theorem key9 : Keyed Tryz.prog 9 := string_keyed Tryz.underlying9
theorem zero74 (w : World) : (zeroValue 74).run Tryz.prog w = .ok (.pointer none) w := by kernel_rfl
theorem keyOf9 (p : Bs) (h : p.length ≤ maxLen) : keyOf Tryz.prog 9 (.string (mk p)) = some (.string p) := by
  have := Go.WideMaps.keyOf_string_mk (P := Tryz.prog) Tryz.underlying9 (s := mk p) (by rw [mk_size]; exact h)
  simpa using this

def ptrOf : Option Nat → Value
  | none => .pointer none
  | some b => .pointer (some ⟨b, 0, none⟩)
theorem blks_fnd (L : Ents) (p : Bs) : fnd (blks L) p = (fnd L p).map En.blk := fnd_map _ _ _
/-- f.nodes[p] -/
theorem Mp.look {w : World} {M : Nat} {L : Ents} (h : Mp w M L) (p : Bs) (hp : p.length ≤ maxLen) : (Instr.lookup 66 (.map (some M)) (.string (mk p)) false).run Tryz.prog w = .ok (ptrOf ((fnd L p).map En.blk)) w := by
  obtain ⟨v, ps, hr, hv⟩ := World.ownsMap.lookup h key9 Tryz.underlying66 (zero74 w) (zd := .nil) (zp := []) rfl (keyOf9 p hp)
  rw [hr]
  rw [datum_at, blks_fnd] at hv
  cases ho : fnd L p with
  | none =>
    rw [ho] at hv
    rw [ptrElem_nil hv]; rfl
  | some e =>
    rw [ho] at hv
    rw [ptrElem_lit hv]; rfl
theorem Mp.tight {w : World} {M n : Nat} {L : Ents} (h : w.ownsMap Tryz.prog 9 ptrElem M n (datum (blks L))) : Mp w M L := by
  have hz := datum_size (H := Unit) (blks L)
  obtain ⟨es, clock, hb, F, hs, hD⟩ := h
  refine ⟨es, clock, hb, F, ?_, hD⟩
  rw [hD] at hz
  simp only [Maps.size, length_sorted, List.length_map, Array.length_toList] at hz
  rw [hz]
  simp [blks]
theorem Mp.lt {w : World} {M : Nat} {L : Ents} (h : Mp w M L) : M < w.heap.size := World.ownsMap.lt h
theorem Mp.isMap {w : World} {M : Nat} {L : Ents} (h : Mp w M L) : ∃ es c, w.heap[M]? = some (.map es c) := by obtain ⟨es, c, hb, _⟩ := h; exact ⟨es, c, hb⟩
theorem Mp.kept {w w' : World} {M : Nat} {L : Ents} (h : Mp w M L) (hk : w'.heap[M]? = w.heap[M]?) : Mp w' M L := by
  obtain ⟨es, clock, hb, r⟩ := h
  exact ⟨es, clock, hk.trans hb, r⟩
theorem blks_put (L : Ents) (p : Bs) (e : En) : blks (put L p e) = put (blks L) p e.blk := put_map _ _ _ _
theorem blks_del (L : Ents) (p : Bs) : blks (del L p) = del (blks L) p := del_map _ _ _
theorem nds_put (L : Ents) (p : Bs) (e : En) : nds (put L p e) = put (nds L) p e.nd := put_map _ _ _ _
theorem nds_del (L : Ents) (p : Bs) : nds (del L p) = del (nds L) p := del_map _ _ _
theorem nds_fnd (L : Ents) (p : Bs) : fnd (nds L) p = (fnd L p).map En.nd := fnd_map _ _ _
theorem nds_length (L : Ents) : (nds L).length = L.length := List.length_map _
theorem grown_turned {w w' : World} {b : Nat} (h : w.mapTurned w' b) : w.grownBy w' (some b) := h.grown
/-- f.nodes[p] = n -/
theorem Mp.put {w : World} {M : Nat} {L : Ents} (h : Mp w M L) (hn : L.length ≤ 1000000) (p : Bs) (hp : p.length ≤ maxLen) (e : En) :
    ∃ w', (Instr.mapUpdate 66 (.map (some M)) (.string (mk p)) (.pointer (some ⟨e.blk, 0, none⟩))).run Tryz.prog w = .ok () w' ∧ Mp w' M (YtamohpcdchhbbaaGreatDoor.put L p e) ∧ w.grownBy w' (some M) := by
  obtain ⟨w', hr, h1, h2⟩ := World.ownsMap.update h key9 Tryz.underlying66 (by unfold maxLen; omega) (keyOf9 p hp) (d := .lit (.int .u64 e.blk)) (ps := []) (val := .pointer (some ⟨e.blk, 0, none⟩)) rfl
  rw [datum_put, ← blks_put] at h1
  exact ⟨w', hr, Mp.tight h1, h2⟩
/-- delete(f.nodes, p) -/
theorem Mp.del {w : World} {M : Nat} {L : Ents} (h : Mp w M L) (p : Bs) (hp : p.length ≤ maxLen) (ty : TypeId) :
    ∃ w', (Builtin.delete_ #[66, 9] ty #[.map (some M), .string (mk p)]).run Tryz.prog w = .ok (.tuple #[]) w' ∧ Mp w' M (YtamohpcdchhbbaaGreatDoor.del L p) ∧ w.grownBy w' (some M) := by
  obtain ⟨w', hr, h1, h2⟩ := World.ownsMap.drop h key9 Tryz.underlying66 (keyOf9 p hp) ty
  rw [datum_del, ← blks_del] at h1
  exact ⟨w', hr, Mp.tight h1, h2.grown⟩
/-- len(f.nodes) -/
theorem Mp.len {w : World} {M : Nat} {L : Ents} (h : Mp w M L) (ty : TypeId) : (Builtin.len_ #[66] ty #[.map (some M)]).run Tryz.prog w = .ok (.int .i64 L.length) w := by
  rw [World.ownsMap.len h Tryz.underlying66 ty, datum_size]
  simp [blks]

/-- at the operation: f.nodes[p] = n -/
theorem wpList_put (w : World) {ops : Array Oper} {rest : List Oper} {o : Oper} {a : Act} {Q : Exit → Act → World → Prop} (hg : o.guard = none) (m x v : Operand) (hop : o.op = Op.mapUpdate 66 m x v)
    (M : Nat) (L : Ents) (hm : a.eval m = .map (some M)) (h : Mp w M L) (hn : L.length ≤ 1000000) (p : Bs) (hp : p.length ≤ maxLen) (e : En) (hx : a.eval x = .string (mk p)) (hv : a.eval v = .pointer (some ⟨e.blk, 0, none⟩))
    (hK : ∀ w', Mp w' M (put L p e) → w.grownBy w' (some M) → wpList Tryz.prog ops Q rest (a.put o.dst undef) w') : wpList Tryz.prog ops Q (o :: rest) a w := by
  refine wpList_plain hg fun K' hK' => ?_
  obtain ⟨w', hrun, r1, r2⟩ := h.put hn p hp e
  unfold Oper.wp
  simp [execOp, hop, hm, hx, hv, hrun, Result.andThen]
  exact hK' _ _ (hK w' r1 r2)
/-- at the operation: delete(f.nodes, p) -/
theorem wpList_del (w : World) {ops : Array Oper} {rest : List Oper} {o : Oper} {a : Act} {Q : Exit → Act → World → Prop} (hg : o.guard = none) (m x : Operand) (hop : o.op = Op.call { callee := Callee.builtin Builtin.delete, args := #[m, x], argTypes := #[66, 9] })
    (M : Nat) (L : Ents) (hm : a.eval m = .map (some M)) (h : Mp w M L) (p : Bs) (hp : p.length ≤ maxLen) (hx : a.eval x = .string (mk p))
    (hK : ∀ w', Mp w' M (del L p) → w.grownBy w' (some M) → wpList Tryz.prog ops Q rest (a.put o.dst (.tuple #[])) w') : wpList Tryz.prog ops Q (o :: rest) a w := by
  refine wpList_plain hg fun K' hK' => ?_
  obtain ⟨w', hrun, r1, r2⟩ := h.del p hp o.type
  unfold Oper.wp
  simp [execOp, hop, resolve, invoke, builtin, hm, hx, hrun, Result.andThen]
  exact hK' _ _ (hK w' r1 r2)

/-- a file system whose nodes can be read -/
structure FsAt (w : World) (A M : Nat) (L : Ents) (wt clk rm : Int) : Prop where
  fb : Fb w A M wt clk rm
  mp : Mp w M L
  nodes : ∀ e ∈ L, NodeAt w e.2
  rds : ∀ e ∈ L, Rds w e.2.dv e.2.nd.data
  srt : Srt L
  keys : ∀ e ∈ L, e.1.length ≤ 1000
/-- .. and whose blocks are its own, all of them among S -/
structure Own (w : World) (S : Nat → Prop) (A M : Nat) (L : Ents) : Prop where
  sA : S A
  sM : S M
  sB : ∀ e ∈ L, S e.2.blk
  sD : ∀ e ∈ L, ∀ g, e.2.dv.ownBlock = some g → S g
  dat : ∀ e ∈ L, Dat w e.2.dv e.2.nd.data
  apB : ∀ a ∈ L, ∀ b ∈ L, a.2.blk = b.2.blk → a = b
  apD : ∀ a ∈ L, ∀ b ∈ L, ∀ g, a.2.dv.ownBlock = some g → b.2.dv.ownBlock = some g → a = b
theorem FsAt.keep {w w' : World} {A M : Nat} {L : Ents} {wt clk rm : Int} (h : FsAt w A M L wt clk rm) (hs : w.heap.size ≤ w'.heap.size) (hA : w'.heap[A]? = w.heap[A]?) (hM : w'.heap[M]? = w.heap[M]?)
    (hB : ∀ e ∈ L, w'.heap[e.2.blk]? = w.heap[e.2.blk]?) (hD : ∀ e ∈ L, e.2.nd.data ≠ [] → ∀ g, e.2.dv.ownBlock = some g → w'.heap[g]? = w.heap[g]?) : FsAt w' A M L wt clk rm :=
  ⟨hA.trans h.fb, h.mp.kept hM, fun e he => (hB e he).trans (h.nodes e he), fun e he => (h.rds e he).kept hs (hD e he), h.srt, h.keys⟩
theorem rds_lt {w : World} {v : Value} {bs : Bs} (h : Rds w v bs) (hne : bs ≠ []) : ∀ g, v.ownBlock = some g → g < w.heap.size := by
  intro g hg
  rcases h with ⟨rfl, _⟩ | ⟨a, cap, rfl, hl, _⟩
  · cases hg
  · cases hg; exact hl hne
theorem FsAt.below {w w' : World} {A M : Nat} {L : Ents} {wt clk rm : Int} (h : FsAt w A M L wt clk rm) (hb : Below w.heap.size w w') : FsAt w' A M L wt clk rm :=
  h.keep hb.size (hb.block A h.fb.lt) (hb.block M h.mp.lt) (fun e he => hb.block _ (h.nodes e he).lt) (fun e he hne g hg => hb.block g (rds_lt (h.rds e he) hne g hg))
theorem Own.below {w w' : World} {S : Nat → Prop} {A M : Nat} {L : Ents} (h : Own w S A M L) (hb : Below w.heap.size w w') : Own w' S A M L :=
  ⟨h.sA, h.sM, h.sB, h.sD, fun e he => (h.dat e he).kept fun g hg => hb.block g ((h.dat e he).lt g hg), h.apB, h.apD⟩
/-- nothing of S has turned -/
theorem FsAt.apart {w w' : World} {S : Nat → Prop} {A M : Nat} {L : Ents} {wt clk rm : Int} (h : FsAt w A M L wt clk rm) (o : Own w S A M L) (hs : w.heap.size ≤ w'.heap.size) (hk : ∀ b, S b → w'.heap[b]? = w.heap[b]?) : FsAt w' A M L wt clk rm :=
  h.keep hs (hk A o.sA) (hk M o.sM) (fun e he => hk _ (o.sB e he)) (fun e he _ g hg => hk g (o.sD e he g hg))
theorem Own.apart {w w' : World} {S : Nat → Prop} {A M : Nat} {L : Ents} (o : Own w S A M L) (hk : ∀ b, S b → w'.heap[b]? = w.heap[b]?) : Own w' S A M L :=
  ⟨o.sA, o.sM, o.sB, o.sD, fun e he => (o.dat e he).kept fun g hg => hk g (o.sD e he g hg), o.apB, o.apD⟩
end Go.Proofs.YtamohpcdchhbbaaGreatDoor
