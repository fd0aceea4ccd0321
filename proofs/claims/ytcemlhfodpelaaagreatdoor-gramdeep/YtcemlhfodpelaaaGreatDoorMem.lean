/- A lexer in memory, its rows of tokens and of what is open. -/
import Derived.Test.YtcemlhfodpelaaaGreatDoorLx
import Derived.Deep.AppendLies
import Derived.OneCell
import Derived.BigQuiet
import Derived.Lib.BufferWrite
namespace Go.Proofs.YtcemlhfodpelaaaGreatDoor
open Go.RowKit

def num : St → Nat
  | .bw => 46 | .wd => 71 | .db => 117 | .cm => 119 | .br => 120 | .bq => 118
abbrev fnV (s : St) : Value := .func (.func (num s)) #[] #[]
def tokC (t : Nat × Bs) : List Value := [.int .i64 t.1, .string (mk t.2)]
def flat (l : List (Nat × Bs)) : List Value := l.flatMap tokC
theorem flat_length (l : List (Nat × Bs)) : (flat l).length = l.length * 2 := by
  induction l with
  | nil => rfl
  | cons a r ih => unfold flat at *; rw [List.flatMap_cons, List.length_append, ih, List.length_cons]; simp only [tokC, List.length_cons, List.length_nil]; omega
theorem below_drewn {B : Nat} {w : World} (q : Nat) : Below B w (w.drewN q) := ⟨rfl, rfl, rfl, Nat.le_refl _, fun _ _ => rfl⟩
theorem run_store_nilFunc (P : Program) (w : World) (a : Addr) (m : Mode) : (store a .nilFunc m).run P w = stored P w a .nilFunc m := run_store P w a _ m rfl
theorem run_store_func (P : Program) (w : World) (a : Addr) (m : Mode) (fn : Fn) (x y : Array Value) : (store a (.func fn x y) m).run P w = stored P w a (.func fn x y) m := run_store P w a _ m rfl

/-- the nine cells of a lexer -/
abbrev lexC (T : ByteArray) (fr p : Nat) (tv ov : Value) : Array Value := #[.string T, .int .i64 fr, .int .i64 p, tv, .int .i64 5000, .int .i64 2, ov, .int .i64 60, .int .i64 42]
structure LexAt (w : World) (A B : Nat) (T : ByteArray) (l : LS) (tv ov : Value) : Prop where
  blk : w.heap[A]? = some (.cells (lexC T l.fr l.p tv ov) 89 (0, 0))
  toks : w.ownsRow B 60 2 tv l.tk.length (flat l.tk)
  opens : w.ownsRow B 91 1 ov l.op.length (l.op.map fnV)
  low : B ≤ A
  size : T.size ≤ 100000
  frp : l.fr ≤ l.p
  pn : l.p ≤ T.size
  nt : l.tk.length ≤ 5000
  no : l.op.length ≤ 60
  glo : 1 < B ∧ ∃ m, w.cell? ⟨1, 0, none⟩ = some (.int .i64 m)
theorem own_block {w : World} {B e size n : Nat} {v : Value} {xs : List Value} (h : w.ownsRow B e size v n xs) {A : Nat} {cs : Array Value} {t : TypeId} {f : Nat × Nat} (hA : w.heap[A]? = some (.cells cs t f)) (ht : t ≠ e) : v.ownBlock ≠ some A := by
  intro hb
  rcases h.2 with ⟨rfl, _⟩ | ⟨g, cap, cur, rfl, _, hg, _⟩
  · cases hb
  · have : g = A := by simpa [Value.ownBlock] using hb
    subst this
    rw [hg] at hA
    exact ht (by have := Option.some.inj hA; injection this with _ h2 _; exact h2.symm)
theorem own_kept {w w' : World} {B e size n : Nat} {v : Value} {xs : List Value} (h : w.ownsRow B e size v n xs) (hk : ∀ g, v.ownBlock = some g → w'.heap[g]? = w.heap[g]?) : w'.ownsRow B e size v n xs := by
  refine ⟨h.1, ?_⟩
  rcases h.2 with h | ⟨g, cap, cur, rfl, hg, hh, r⟩
  · exact .inl h
  · exact .inr ⟨g, cap, cur, rfl, hg, (hk g rfl).trans hh, r⟩
theorem own_lt {w : World} {B e size n : Nat} {v : Value} {xs : List Value} (h : w.ownsRow B e size v n xs) : ∀ g, v.ownBlock = some g → g < w.heap.size := by
  intro g hg
  rcases h.2 with ⟨rfl, _⟩ | ⟨g', cap, cur, rfl, _, hb, r⟩
  · cases hg
  · cases hg; exact lt_of_block hb
theorem own_low {w : World} {B e size n : Nat} {v : Value} {xs : List Value} (h : w.ownsRow B e size v n xs) : ∀ g, v.ownBlock = some g → B ≤ g := by
  intro g hg
  rcases h.2 with ⟨rfl, _⟩ | ⟨g', cap, cur, rfl, hb, r⟩
  · cases hg
  · cases hg; exact hb
theorem own_ty {w : World} {B e size n : Nat} {v : Value} {xs : List Value} (h : w.ownsRow B e size v n xs) : ∀ g, v.ownBlock = some g → ∃ cur, w.heap[g]? = some (.cells cur e (0, 0)) := by
  intro g hg
  rcases h.2 with ⟨rfl, _⟩ | ⟨g', cap, cur, rfl, hb, hh, r⟩
  · cases hg
  · cases hg; exact ⟨_, hh⟩
/-- a cell of a block that is known whole is written -/
theorem set_block {w : World} {A : Nat} {cs : Array Value} {t : TypeId} {f : Nat × Nat} (h : w.heap[A]? = some (.cells cs t f)) (j : Nat) (v : Value) : (w.setCell ⟨A, j, none⟩ v).heap[A]? = some (.cells (cs.setIfInBounds j v) t f) := by
  have hlt := lt_of_block h
  have h' : w.heap[A] = .cells cs t f := by simpa [Array.getElem?_eq_getElem hlt] using h
  show (w.heap.modify A _)[A]? = _
  rw [Array.getElem?_eq_getElem (by simpa using hlt), Array.getElem_modify_self, h']
  rfl
theorem set_other (w : World) (A j : Nat) (v : Value) {k : Nat} (h : k ≠ A) : (w.setCell ⟨A, j, none⟩ v).heap[k]? = w.heap[k]? := Below.heap_setCell _ _ _ _ h
section
variable {w : World} {A B : Nat} {T : ByteArray} {l : LS} {tv ov : Value}
theorem LexAt.lt (h : LexAt w A B T l tv ov) : A < w.heap.size := lt_of_block h.blk
theorem LexAt.c0 (h : LexAt w A B T l tv ov) : w.cell? ⟨A, 0, none⟩ = some (.string T) := by rw [Lib.cell_of_heap h.blk]; rfl
theorem LexAt.c1 (h : LexAt w A B T l tv ov) : w.cell? ⟨A, 1, none⟩ = some (.int .i64 l.fr) := by rw [Lib.cell_of_heap h.blk]; rfl
theorem LexAt.c2 (h : LexAt w A B T l tv ov) : w.cell? ⟨A, 2, none⟩ = some (.int .i64 l.p) := by rw [Lib.cell_of_heap h.blk]; rfl
theorem LexAt.c3 (h : LexAt w A B T l tv ov) : w.cell? ⟨A, 3, none⟩ = some tv := by rw [Lib.cell_of_heap h.blk]; rfl
theorem LexAt.c4 (h : LexAt w A B T l tv ov) : w.cell? ⟨A, 4, none⟩ = some (.int .i64 5000) := by rw [Lib.cell_of_heap h.blk]; rfl
theorem LexAt.c5 (h : LexAt w A B T l tv ov) : w.cell? ⟨A, 5, none⟩ = some (.int .i64 2) := by rw [Lib.cell_of_heap h.blk]; rfl
theorem LexAt.c6 (h : LexAt w A B T l tv ov) : w.cell? ⟨A, 6, none⟩ = some ov := by rw [Lib.cell_of_heap h.blk]; rfl
theorem LexAt.c7 (h : LexAt w A B T l tv ov) : w.cell? ⟨A, 7, none⟩ = some (.int .i64 60) := by rw [Lib.cell_of_heap h.blk]; rfl
theorem LexAt.c8 (h : LexAt w A B T l tv ov) : w.cell? ⟨A, 8, none⟩ = some (.int .i64 42) := by rw [Lib.cell_of_heap h.blk]; rfl
theorem LexAt.fz (h : LexAt w A B T l tv ov) (j : Nat) : w.frozen? ⟨A, j, none⟩ = false := Lib.frozen_of_heap h.blk j
theorem LexAt.tA (h : LexAt w A B T l tv ov) : tv.ownBlock ≠ some A := own_block h.toks h.blk (by decide)
theorem LexAt.oA (h : LexAt w A B T l tv ov) : ov.ownBlock ≠ some A := own_block h.opens h.blk (by decide)
theorem LexAt.drew (h : LexAt w A B T l tv ov) (n : Nat) : LexAt (w.drewN n) A B T l tv ov := ⟨h.blk, h.toks, h.opens, h.low, h.size, h.frp, h.pn, h.nt, h.no, h.glo⟩
theorem below_set (h : LexAt w A B T l tv ov) (j : Nat) (v : Value) : Below B w (w.setCell ⟨A, j, none⟩ v) :=
  ⟨rfl, rfl, rfl, Nat.le_of_eq (by simp), fun k hk => set_other w A j v (by have := h.low; omega)⟩
theorem LexAt.below (h : LexAt w A B T l tv ov) {w' : World} (hb : Below w.heap.size w w') : LexAt w' A B T l tv ov :=
  ⟨(hb.block A h.lt).trans h.blk, own_kept h.toks fun g hg => hb.block g (own_lt h.toks g hg), own_kept h.opens fun g hg => hb.block g (own_lt h.opens g hg), h.low, h.size, h.frp, h.pn, h.nt, h.no,
   h.glo.1, by obtain ⟨m, hm⟩ := h.glo.2; exact ⟨m, (hb.cell (p := ⟨1, 0, none⟩) (by have := h.lt; have := h.low; have := h.glo.1; simp only; omega)).trans hm⟩⟩
theorem LexAt.glo' (h : LexAt w A B T l tv ov) {w' : World} (hb : Below B w w') : 1 < B ∧ ∃ m, w'.cell? ⟨1, 0, none⟩ = some (.int .i64 m) := by
  obtain ⟨m, hm⟩ := h.glo.2
  exact ⟨h.glo.1, m, (hb.cell (p := ⟨1, 0, none⟩) h.glo.1).trans hm⟩
/-- the place is written -/
theorem LexAt.setP (h : LexAt w A B T l tv ov) (m : Nat) (h1 : l.fr ≤ m) (h2 : m ≤ T.size) : LexAt (w.setCell ⟨A, 2, none⟩ (.int .i64 m)) A B T (atP l m) tv ov :=
  ⟨set_block h.blk 2 _, own_kept h.toks fun _ hg => set_other _ _ _ _ (fun e => h.tA (e ▸ hg)), own_kept h.opens fun _ hg => set_other _ _ _ _ (fun e => h.oA (e ▸ hg)), h.low, h.size, h1, h2, h.nt, h.no, h.glo' (below_set h 2 _)⟩
theorem LexAt.setF (h : LexAt w A B T l tv ov) : LexAt (w.setCell ⟨A, 1, none⟩ (.int .i64 l.p)) A B T ⟨l.p, l.p, l.tk, l.op⟩ tv ov :=
  ⟨set_block h.blk 1 _, own_kept h.toks fun _ hg => set_other _ _ _ _ (fun e => h.tA (e ▸ hg)), own_kept h.opens fun _ hg => set_other _ _ _ _ (fun e => h.oA (e ▸ hg)), h.low, h.size, Nat.le_refl _, h.pn, h.nt, h.no, h.glo' (below_set h 1 _)⟩
end
end Go.Proofs.YtcemlhfodpelaaaGreatDoor
