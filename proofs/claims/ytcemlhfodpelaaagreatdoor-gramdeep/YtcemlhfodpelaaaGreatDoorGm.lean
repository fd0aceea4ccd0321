/- A parser of commands in memory; commands in memory. -/
import Derived.Test.YtcemlhfodpelaaaGreatDoorZp
import Derived.Test.YtcemlhfodpelaaaGreatDoorMem
namespace Go.Proofs.YtcemlhfodpelaaaGreatDoor
open Go.RowKit

abbrev ptr (A : Nat) : Value := .pointer (some ⟨A, 0, none⟩)
abbrev formV (A k : Nat) : Value := .func (.func k) #[ptr A] #[]
def fmN : Fm → Nat
  | .sub => 30 | .grp => 31 | .cho => 32 | .whl => 33 | .unt => 34 | .fr => 35 | .cas => 36
/-- the map of the forms -/
def formsA (A : Nat) : Array MapEntry := #[⟨.string ⟨#[40]⟩, formV A 30, 0⟩, ⟨.string ⟨#[123]⟩, formV A 31, 1⟩, ⟨.string ⟨#[105, 102]⟩, formV A 32, 2⟩, ⟨.string ⟨#[119, 104, 105, 108, 101]⟩, formV A 33, 3⟩, ⟨.string ⟨#[117, 110, 116, 105, 108]⟩, formV A 34, 4⟩, ⟨.string ⟨#[102, 111, 114]⟩, formV A 35, 5⟩, ⟨.string ⟨#[99, 97, 115, 101]⟩, formV A 36, 6⟩]
/-- where a parser lies -/
structure Cx where
  A : Nat
  M : Nat
  g : Nat
  cap : Nat
  tk : List Tok
structure PsP (w : World) (x : Cx) (p : Nat) (s : PS) : Prop where
  blk : w.heap[x.A]? = some (.cells #[.slice (some ⟨x.g, 0, none⟩) x.tk.length x.cap, .int .i64 p, .map (some x.M), .int .i64 s.dp, .int .i64 s.dm] 73 (0, 0))
  mp : w.heap[x.M]? = some (.map (formsA x.A) 7)
  row : ∃ cur, w.heap[x.g]? = some (.cells cur 60 (0, 0)) ∧ cur.toList.take (x.tk.length * 2) = flat x.tk
  ts : x.tk.drop p = s.ts
  good : Good s.ts
  len : x.tk.length ≤ 5000
  dpl : s.dp ≤ p
  dml : s.dm ≤ 5000
  glo : ∃ cs m, w.heap[1]? = some (.cells cs 3 (0, 0)) ∧ cs[0]? = some (.int .i64 m)
def PsAt (w : World) (x : Cx) (s : PS) : Prop := ∃ p, PsP w x p s
/-- of what was there nothing has turned but the parser -/
abbrev Gr (x : Cx) (w w' : World) : Prop := w.grownBy w' (some x.A)
theorem PsP.lt {w : World} {x : Cx} {p : Nat} {s : PS} (h : PsP w x p s) : p < x.tk.length := by
  have := h.good.ne
  rw [← h.ts] at this
  by_cases hp : p < x.tk.length
  · exact hp
  · exact absurd (List.drop_eq_nil_of_le (by omega)) this
theorem PsP.tok {w : World} {x : Cx} {p : Nat} {s : PS} (h : PsP w x p s) : x.tk[p]? = some (kd s.ts, tx s.ts) := by
  have h1 := h.lt
  have h2 := h.ts
  rw [List.drop_eq_getElem_cons h1] at h2
  rw [← h2, List.getElem?_eq_getElem h1]
  rfl
theorem flat_tok : ∀ (l : List Tok) (i : Nat) (t : Tok), l[i]? = some t → (flat l)[i * 2]? = some (.int .i64 t.1) ∧ (flat l)[i * 2 + 1]? = some (.string (mk t.2))
  | [], i, t, h => by simp at h
  | a :: r, 0, t, h => by
    obtain rfl : a = t := by simpa using h
    exact ⟨rfl, rfl⟩
  | a :: r, i + 1, t, h => by
    have := flat_tok r i t (by simpa using h)
    have e : flat (a :: r) = .int .i64 a.1 :: .string (mk a.2) :: flat r := rfl
    rw [e, show (i + 1) * 2 = i * 2 + 1 + 1 by omega]
    simpa using this
theorem psp_cells {w : World} {x : Cx} {p : Nat} {s : PS} (h : PsP w x p s) : w.cell? ⟨x.g, p * 2, none⟩ = some (.int .i64 (kd s.ts)) ∧ w.cell? ⟨x.g, p * 2 + 1, none⟩ = some (.string (mk (tx s.ts))) := by
  obtain ⟨cur, hg, ht⟩ := h.row
  have h1 := h.lt
  obtain ⟨h2, h3⟩ := flat_tok _ _ _ h.tok
  rw [← ht, List.getElem?_take_of_lt (by omega)] at h2 h3
  rw [Lib.cell_of_heap hg, Lib.cell_of_heap hg]
  exact ⟨by simpa using h2, by simpa using h3⟩
theorem PsP.fields {w : World} {x : Cx} {p : Nat} {s : PS} (h : PsP w x p s) : w.cell? ⟨x.A, 0, none⟩ = some (.slice (some ⟨x.g, 0, none⟩) x.tk.length x.cap) ∧ w.cell? ⟨x.A, 1, none⟩ = some (.int .i64 p) ∧ w.cell? ⟨x.A, 2, none⟩ = some (.map (some x.M)) ∧ w.cell? ⟨x.A, 3, none⟩ = some (.int .i64 s.dp) ∧ w.cell? ⟨x.A, 4, none⟩ = some (.int .i64 s.dm) := by
  refine ⟨?_, ?_, ?_, ?_, ?_⟩ <;> (rw [Lib.cell_of_heap h.blk]; rfl)
theorem PsP.fz {w : World} {x : Cx} {p : Nat} {s : PS} (h : PsP w x p s) (j : Nat) : w.frozen? ⟨x.A, j, none⟩ = false := Lib.frozen_of_heap h.blk j
theorem PsP.ne {w : World} {x : Cx} {p : Nat} {s : PS} (h : PsP w x p s) : x.M ≠ x.A ∧ x.g ≠ x.A := by
  obtain ⟨cur, hg, _⟩ := h.row
  have h1 := h.blk
  have h2 := h.mp
  constructor
  · intro e; rw [e, h1] at h2; simp at h2
  · intro e; rw [e, h1] at hg; simp at hg
/-- the parser stays where its three blocks do -/
theorem PsP.kept {w w' : World} {x : Cx} {p : Nat} {s : PS} (h : PsP w x p s) (hk : ∀ b, b < w.heap.size → b = x.A ∨ b = x.M ∨ b = x.g ∨ b = 1 → w'.heap[b]? = w.heap[b]?) : PsP w' x p s := by
  obtain ⟨cur, hg, ht⟩ := h.row
  obtain ⟨cs, m, h1, h2⟩ := h.glo
  exact ⟨(hk _ (lt_of_block h.blk) (.inl rfl)).trans h.blk, (hk _ (lt_of_block h.mp) (.inr (.inl rfl))).trans h.mp, ⟨cur, (hk _ (lt_of_block hg) (.inr (.inr (.inl rfl)))).trans hg, ht⟩, h.ts, h.good, h.len, h.dpl, h.dml, ⟨cs, m, (hk _ (lt_of_block h1) (.inr (.inr (.inr rfl)))).trans h1, h2⟩⟩
theorem PsP.below {w w' : World} {x : Cx} {p : Nat} {s : PS} (h : PsP w x p s) (hb : Below w.heap.size w w') : PsP w' x p s := h.kept fun b hb' _ => hb.block b hb'
theorem PsAt.below {w w' : World} {x : Cx} {s : PS} (h : PsAt w x s) (hb : Below w.heap.size w w') : PsAt w' x s := by
  obtain ⟨p, h⟩ := h
  exact ⟨p, h.below hb⟩
/-- a block that is not the parser's is written or grown -/
theorem PsAt.grown {w w' : World} {x : Cx} {s : PS} {r : Option Nat} (h : PsAt w x s) (hg : w.grownBy w' r) (hr : ∀ b, r = some b → ∃ cur T, w.heap[b]? = some (.cells cur T (0, 0)) ∧ T ≠ 73 ∧ T ≠ 60 ∧ T ≠ 3) : PsAt w' x s := by
  obtain ⟨p, h⟩ := h
  refine ⟨p, h.kept fun b hb ho => hg.block b hb fun e => ?_⟩
  obtain ⟨cur, T, h1, h2, h3, h6⟩ := hr b e.symm
  obtain ⟨cur', h4, _⟩ := h.row
  obtain ⟨cs, m, h7, _⟩ := h.glo
  rcases ho with rfl | rfl | rfl | rfl
  · rw [h.blk] at h1; injection h1 with h1; injection h1 with _ h5; exact h2 h5.symm
  · rw [h.mp] at h1; cases h1
  · rw [h4] at h1; injection h1 with h1; injection h1 with _ h5; exact h3 h5.symm
  · rw [h7] at h1; injection h1 with h1; injection h1 with _ h5; exact h6 h5.symm
theorem PsAt.lt {w : World} {x : Cx} {s : PS} (h : PsAt w x s) : x.A < w.heap.size := by
  obtain ⟨p, h⟩ := h
  exact lt_of_block h.blk
theorem PsAt.good {w : World} {x : Cx} {s : PS} (h : PsAt w x s) : Good s.ts := by
  obtain ⟨p, h⟩ := h
  exact h.good
theorem Gr.refl (x : Cx) (w : World) : Gr x w w := ⟨rfl, rfl, rfl, Nat.le_refl _, fun _ _ _ => rfl⟩
theorem Gr.drewN (x : Cx) (w : World) (n : Nat) : Gr x w (w.drewN n) := ⟨rfl, rfl, rfl, Nat.le_refl _, fun _ _ _ => rfl⟩
theorem Gr.trans {x : Cx} {a b c : World} (h : Gr x a b) (k : Gr x b c) : Gr x a c :=
  ⟨k.os.trans h.os, k.tape.trans h.tape, k.output.trans h.output, Nat.le_trans h.size k.size, fun i hi hn => (k.block i (Nat.lt_of_lt_of_le hi h.size) hn).trans (h.block i hi hn)⟩
theorem Gr.of_below {x : Cx} {w w' : World} (h : Below w.heap.size w w') : Gr x w w' := ⟨h.os, h.tape, h.output, h.size, fun k hk _ => h.block k hk⟩
/-- a block beyond the beginning is grown -/
theorem Gr.grown {x : Cx} {a b c : World} {r : Option Nat} (h : Gr x a b) (k : b.grownBy c r) (hr : ∀ g, r = some g → a.heap.size ≤ g) : Gr x a c :=
  ⟨k.os.trans h.os, k.tape.trans h.tape, k.output.trans h.output, Nat.le_trans h.size k.size, fun i hi hn => (k.block i (Nat.lt_of_lt_of_le hi h.size) (fun e => by have := hr i e.symm; omega)).trans (h.block i hi hn)⟩
/-- a field of the parser is written -/
theorem PsP.set {w : World} {x : Cx} {p : Nat} {s : PS} (h : PsP w x p s) (p' : Nat) (s' : PS) (j : Nat) (v : Value) (hc : (#[.slice (some ⟨x.g, 0, none⟩) x.tk.length x.cap, .int .i64 p, .map (some x.M), .int .i64 s.dp, .int .i64 s.dm] : Array Value).setIfInBounds j v = #[.slice (some ⟨x.g, 0, none⟩) x.tk.length x.cap, .int .i64 p', .map (some x.M), .int .i64 s'.dp, .int .i64 s'.dm])
    (h1 : x.tk.drop p' = s'.ts) (h2 : Good s'.ts) (h3 : s'.dp ≤ p') (h4 : s'.dm ≤ 5000) : PsP (w.setCell ⟨x.A, j, none⟩ v) x p' s' ∧ Gr x w (w.setCell ⟨x.A, j, none⟩ v) := by
  obtain ⟨cur, hg, ht⟩ := h.row
  obtain ⟨cs, m, h7, h8⟩ := h.glo
  have hk : ∀ b, b ≠ x.A → (w.setCell ⟨x.A, j, none⟩ v).heap[b]? = w.heap[b]? := fun b hb => Below.heap_setCell _ _ _ _ hb
  have hA1 : 1 ≠ x.A := fun e => by rw [e, h.blk] at h7; simp at h7
  refine ⟨⟨?_, (hk _ h.ne.1).trans h.mp, ⟨cur, (hk _ h.ne.2).trans hg, ht⟩, h1, h2, h.len, h3, h4, ⟨cs, m, (hk _ hA1).trans h7, h8⟩⟩, ⟨rfl, rfl, rfl, by simp, fun k _ hn => hk k fun e => hn (by rw [e])⟩⟩
  have := set_block h.blk j v
  rw [hc] at this
  exact this
/-- one token on -/
theorem PsP.nx {w : World} {x : Cx} {p : Nat} {s : PS} (h : PsP w x p s) (ht : tx s.ts ≠ []) : PsP (w.setCell ⟨x.A, 1, none⟩ (.int .i64 ((p + 1 : Nat) : Int))) x (p + 1) s.nx ∧ Gr x w (w.setCell ⟨x.A, 1, none⟩ (.int .i64 ((p + 1 : Nat) : Int))) :=
  h.set (p + 1) s.nx 1 _ rfl (show x.tk.drop (p + 1) = s.ts.tail by rw [← h.ts, List.tail_drop]) (h.good.tail ht) (by have := h.dpl; show s.dp ≤ _; omega) h.dml
end Go.Proofs.YtcemlhfodpelaaaGreatDoor
