/- An arm of a case. -/
import Derived.Test.YtcemlhfodpelaaaGreatDoorGfo
namespace Go.Proofs.YtcemlhfodpelaaaGreatDoor
open Go.RowKit

abbrev zeroA : Array Value := #[.slice none 0 0, .int .i64 0, .bool false, .slice none 0 0, .slice none 0 0, .slice none 0 0, .slice none 0 0, .slice none 0 0]
abbrev set8 (w : World) (b : Nat) (v0 v1 v2 v3 v4 v5 v6 v7 : Value) : World := (((((((w.setCell ⟨b, 0, none⟩ v0).setCell ⟨b, 1, none⟩ v1).setCell ⟨b, 2, none⟩ v2).setCell ⟨b, 3, none⟩ v3).setCell ⟨b, 4, none⟩ v4).setCell ⟨b, 5, none⟩ v5).setCell ⟨b, 6, none⟩ v6).setCell ⟨b, 7, none⟩ v7
abbrev setB (w : World) (b : Nat) (v1 v2 v3 v4 v5 v6 v7 : Value) : World := ((((((w.setCell ⟨b, 1, none⟩ v1).setCell ⟨b, 2, none⟩ v2).setCell ⟨b, 3, none⟩ v3).setCell ⟨b, 4, none⟩ v4).setCell ⟨b, 5, none⟩ v5).setCell ⟨b, 6, none⟩ v6).setCell ⟨b, 7, none⟩ v7
theorem set8_blk {w : World} {b : Nat} {u0 u1 u2 u3 u4 u5 u6 u7 : Value} (h : w.heap[b]? = some (.cells #[u0, u1, u2, u3, u4, u5, u6, u7] 42 (0, 0))) (v0 v1 v2 v3 v4 v5 v6 v7 : Value) : (set8 w b v0 v1 v2 v3 v4 v5 v6 v7).heap[b]? = some (.cells #[v0, v1, v2, v3, v4, v5, v6, v7] 42 (0, 0)) := by
  unfold set8
  have h0 : (w.setCell ⟨b, 0, none⟩ v0).heap[b]? = some (.cells #[v0, u1, u2, u3, u4, u5, u6, u7] 42 (0, 0)) := set_block h 0 v0
  generalize w.setCell ⟨b, 0, none⟩ v0 = w0 at *
  have h1 : (w0.setCell ⟨b, 1, none⟩ v1).heap[b]? = some (.cells #[v0, v1, u2, u3, u4, u5, u6, u7] 42 (0, 0)) := set_block h0 1 v1
  generalize w0.setCell ⟨b, 1, none⟩ v1 = w1 at *
  have h2 : (w1.setCell ⟨b, 2, none⟩ v2).heap[b]? = some (.cells #[v0, v1, v2, u3, u4, u5, u6, u7] 42 (0, 0)) := set_block h1 2 v2
  generalize w1.setCell ⟨b, 2, none⟩ v2 = w2 at *
  have h3 : (w2.setCell ⟨b, 3, none⟩ v3).heap[b]? = some (.cells #[v0, v1, v2, v3, u4, u5, u6, u7] 42 (0, 0)) := set_block h2 3 v3
  generalize w2.setCell ⟨b, 3, none⟩ v3 = w3 at *
  have h4 : (w3.setCell ⟨b, 4, none⟩ v4).heap[b]? = some (.cells #[v0, v1, v2, v3, v4, u5, u6, u7] 42 (0, 0)) := set_block h3 4 v4
  generalize w3.setCell ⟨b, 4, none⟩ v4 = w4 at *
  have h5 : (w4.setCell ⟨b, 5, none⟩ v5).heap[b]? = some (.cells #[v0, v1, v2, v3, v4, v5, u6, u7] 42 (0, 0)) := set_block h4 5 v5
  generalize w4.setCell ⟨b, 5, none⟩ v5 = w5 at *
  have h6 : (w5.setCell ⟨b, 6, none⟩ v6).heap[b]? = some (.cells #[v0, v1, v2, v3, v4, v5, v6, u7] 42 (0, 0)) := set_block h5 6 v6
  generalize w5.setCell ⟨b, 6, none⟩ v6 = w6 at *
  exact set_block h6 7 v7
theorem set8_grown (w : World) (b : Nat) (v0 v1 v2 v3 v4 v5 v6 v7 : Value) : w.grownBy (set8 w b v0 v1 v2 v3 v4 v5 v6 v7) (some b) := by
  have h0 : w.grownBy w (some b) := ⟨rfl, rfl, rfl, Nat.le_refl _, fun _ _ _ => rfl⟩
  have g0 := grown_set h0 0 v0
  have g1 := grown_set g0 1 v1
  have g2 := grown_set g1 2 v2
  have g3 := grown_set g2 3 v3
  have g4 := grown_set g3 4 v4
  have g5 := grown_set g4 5 v5
  have g6 := grown_set g5 6 v6
  have g7 := grown_set g6 7 v7
  exact g7
theorem setB_blk {w : World} {b : Nat} {u0 u1 u2 u3 u4 u5 u6 u7 : Value} (h : w.heap[b]? = some (.cells #[u0, u1, u2, u3, u4, u5, u6, u7] 42 (0, 0))) (v1 v2 v3 v4 v5 v6 v7 : Value) : (setB w b v1 v2 v3 v4 v5 v6 v7).heap[b]? = some (.cells #[u0, v1, v2, v3, v4, v5, v6, v7] 42 (0, 0)) := by
  unfold setB
  have h1 : (w.setCell ⟨b, 1, none⟩ v1).heap[b]? = some (.cells #[u0, v1, u2, u3, u4, u5, u6, u7] 42 (0, 0)) := set_block h 1 v1
  generalize w.setCell ⟨b, 1, none⟩ v1 = w1 at *
  have h2 : (w1.setCell ⟨b, 2, none⟩ v2).heap[b]? = some (.cells #[u0, v1, v2, u3, u4, u5, u6, u7] 42 (0, 0)) := set_block h1 2 v2
  generalize w1.setCell ⟨b, 2, none⟩ v2 = w2 at *
  have h3 : (w2.setCell ⟨b, 3, none⟩ v3).heap[b]? = some (.cells #[u0, v1, v2, v3, u4, u5, u6, u7] 42 (0, 0)) := set_block h2 3 v3
  generalize w2.setCell ⟨b, 3, none⟩ v3 = w3 at *
  have h4 : (w3.setCell ⟨b, 4, none⟩ v4).heap[b]? = some (.cells #[u0, v1, v2, v3, v4, u5, u6, u7] 42 (0, 0)) := set_block h3 4 v4
  generalize w3.setCell ⟨b, 4, none⟩ v4 = w4 at *
  have h5 : (w4.setCell ⟨b, 5, none⟩ v5).heap[b]? = some (.cells #[u0, v1, v2, v3, v4, v5, u6, u7] 42 (0, 0)) := set_block h4 5 v5
  generalize w4.setCell ⟨b, 5, none⟩ v5 = w5 at *
  have h6 : (w5.setCell ⟨b, 6, none⟩ v6).heap[b]? = some (.cells #[u0, v1, v2, v3, v4, v5, v6, u7] 42 (0, 0)) := set_block h5 6 v6
  generalize w5.setCell ⟨b, 6, none⟩ v6 = w6 at *
  exact set_block h6 7 v7
theorem setB_grown (w : World) (b : Nat) (v1 v2 v3 v4 v5 v6 v7 : Value) : w.grownBy (setB w b v1 v2 v3 v4 v5 v6 v7) (some b) := by
  have h0 : w.grownBy w (some b) := ⟨rfl, rfl, rfl, Nat.le_refl _, fun _ _ _ => rfl⟩
  have g0 := grown_set h0 1 v1
  have g1 := grown_set g0 2 v2
  have g2 := grown_set g1 3 v3
  have g3 := grown_set g2 4 v4
  have g4 := grown_set g3 5 v5
  have g5 := grown_set g4 6 v6
  have g6 := grown_set g5 7 v7
  exact g6
theorem cells8 {w : World} {b : Nat} {v0 v1 v2 v3 v4 v5 v6 v7 : Value} (h : w.heap[b]? = some (.cells #[v0, v1, v2, v3, v4, v5, v6, v7] 42 (0, 0))) :
    w.cell? ⟨b, 0, none⟩ = some v0 ∧ w.cell? ⟨b, 1, none⟩ = some v1 ∧ w.cell? ⟨b, 2, none⟩ = some v2 ∧ w.cell? ⟨b, 3, none⟩ = some v3 ∧ w.cell? ⟨b, 4, none⟩ = some v4 ∧ w.cell? ⟨b, 5, none⟩ = some v5 ∧ w.cell? ⟨b, 6, none⟩ = some v6 ∧ w.cell? ⟨b, 7, none⟩ = some v7 := by
  refine ⟨?_, ?_, ?_, ?_, ?_, ?_, ?_, ?_⟩ <;> (rw [Lib.cell_of_heap h]; rfl)
theorem fz8 {w : World} {b : Nat} {cs : Array Value} {T : TypeId} (h : w.heap[b]? = some (.cells cs T (0, 0))) : w.frozen? ⟨b, 0, none⟩ = false ∧ w.frozen? ⟨b, 1, none⟩ = false ∧ w.frozen? ⟨b, 2, none⟩ = false ∧ w.frozen? ⟨b, 3, none⟩ = false ∧ w.frozen? ⟨b, 4, none⟩ = false ∧ w.frozen? ⟨b, 5, none⟩ = false ∧ w.frozen? ⟨b, 6, none⟩ = false ∧ w.frozen? ⟨b, 7, none⟩ = false := by
  refine ⟨?_, ?_, ?_, ?_, ?_, ?_, ?_, ?_⟩ <;> exact Lib.frozen_of_heap h _
/-- the box of a command that is being built, and its result's block -/
structure BoxM (x : Cx) (w0 w : World) (s : PS) (bx : Nat) (vals : Array Value) : Prop where
  ps : PsAt w x s
  gr : Gr x w0 w
  res : w.heap[w0.heap.size]? = some (.cells zeroA 42 (0, 0))
  box : w.heap[bx]? = some (.cells vals 42 (0, 0))
  lo : w0.heap.size < bx
theorem BoxM.call {x : Cx} {w0 w w' : World} {s s' : PS} {bx : Nat} {vals : Array Value} (h : BoxM x w0 w s bx vals) (hG : Gr x w w') (hP : PsAt w' x s') (hA : x.A < w0.heap.size) : BoxM x w0 w' s' bx vals :=
  ⟨hP, h.gr.trans hG, hG.blk (by omega) h.res, hG.blk (by have := h.lo; omega) h.box, h.lo⟩
theorem BoxM.drew {x : Cx} {w0 w : World} {s : PS} {bx : Nat} {vals : Array Value} (h : BoxM x w0 w s bx vals) : BoxM x w0 w.drew s bx vals :=
  ⟨h.ps.drew, h.gr.trans (Gr.drew x w), h.res, h.box, h.lo⟩
theorem BoxM.below {x : Cx} {w0 w w' : World} {s : PS} {bx : Nat} {vals : Array Value} (h : BoxM x w0 w s bx vals) (hb : Below w.heap.size w w') : BoxM x w0 w' s bx vals :=
  ⟨h.ps.below hb, h.gr.trans (Gr.of_below hb), (hb.block _ (lt_of_block h.res)).trans h.res, (hb.block _ (lt_of_block h.box)).trans h.box, h.lo⟩
/-- a row of the command's is grown -/
theorem BoxM.grown {x : Cx} {w0 w w' : World} {s : PS} {bx T : Nat} {vals : Array Value} {r : Option Nat} (h : BoxM x w0 w s bx vals) (hg : w.grownBy w' r) (hT : T ≠ 73 ∧ T ≠ 60 ∧ T ≠ 3) (hr : ∀ b, r = some b → w0.heap.size < b ∧ b ≠ bx ∧ ∃ cur, w.heap[b]? = some (.cells cur T (0, 0))) : BoxM x w0 w' s bx vals := by
  refine ⟨h.ps.grown hg fun b e => ?_, h.gr.grown hg fun b e => by have := (hr b e).1; omega, (hg.block _ (lt_of_block h.res) fun e => ?_).trans h.res, (hg.block _ (lt_of_block h.box) fun e => (hr _ e.symm).2.1 rfl).trans h.box, h.lo⟩
  · obtain ⟨_, _, cur, hc⟩ := hr b e
    exact ⟨cur, T, hc, hT⟩
  · have := (hr _ e.symm).1
    omega
/-- a field of the box is written -/
theorem BoxM.set {x : Cx} {w0 w : World} {s : PS} {bx : Nat} {vals : Array Value} (h : BoxM x w0 w s bx vals) (f : Nat) (v : Value) : BoxM x w0 (w.setCell ⟨bx, f, none⟩ v) s bx (vals.setIfInBounds f v) := by
  have hg : w.grownBy (w.setCell ⟨bx, f, none⟩ v) (some bx) := grown_set ⟨rfl, rfl, rfl, Nat.le_refl _, fun _ _ _ => rfl⟩ f v
  have hlo := h.lo
  exact ⟨h.ps.grown hg fun b e => by cases e; exact ⟨_, _, h.box, by decide, by decide, by decide⟩, h.gr.grown hg fun b e => by cases e; omega, (hg.block _ (lt_of_block h.res) fun e => by have := Option.some.inj e; omega).trans h.res, set_block h.box f v, hlo⟩
/-- a row of a box is grown by one thing -/
theorem push_rowM {x : Cx} {w0 w2 w3 w4 : World} {s : PS} {bx g cap T sz n f : Nat} {vals cells : Array Value} {kv : Value} {xs news : List Value}
    (hB : BoxM x w0 w3 s bx vals) (hR : RowS w2 (KS w0 bx) T sz kv n xs) (hT : T ≠ 73 ∧ T ≠ 60 ∧ T ≠ 3) (hG : Gr x w2 w3) (hA : x.A < w0.heap.size) (hbx : bx < w2.heap.size)
    (ho : w4.ownsRow 0 T sz (.slice (some ⟨g, 0, none⟩) (n + 1) cap) (n + 1) (xs ++ news)) (hg : (w3.alloc (.cells cells T)).grownBy w4 kv.ownBlock) (hat : kv.ownBlock = some g ∨ g = (w3.alloc (.cells cells T)).heap.size) :
    BoxM x w0 w4 s bx vals ∧ BoxM x w0 (w4.setCell ⟨bx, f, none⟩ (.slice (some ⟨g, 0, none⟩) (n + 1) cap)) s bx (vals.setIfInBounds f (.slice (some ⟨g, 0, none⟩) (n + 1) cap)) ∧
      RowS (w4.setCell ⟨bx, f, none⟩ (.slice (some ⟨g, 0, none⟩) (n + 1) cap)) (KS w0 bx) T sz (.slice (some ⟨g, 0, none⟩) (n + 1) cap) (n + 1) (xs ++ news) ∧
      (∀ b, KS w0 bx b → b < w2.heap.size → kv.ownBlock ≠ some b → (w4.setCell ⟨bx, f, none⟩ (.slice (some ⟨g, 0, none⟩) (n + 1) cap)).heap[b]? = w2.heap[b]?) ∧
      (∀ b, b < w2.heap.size → kv.ownBlock ≠ some b → (Value.slice (some ⟨g, 0, none⟩) (n + 1) cap).ownBlock ≠ some b) := by
  have hb : Below w3.heap.size w3 (w3.alloc (.cells cells T)) := (Below.refl _ _).alloc (Nat.le_refl _) _
  have hs : (w3.alloc (.cells cells T)).heap.size = w3.heap.size + 1 := by simp
  generalize w3.alloc (.cells cells T) = W at *
  have hs2 := hG.size
  have hlo := hB.lo
  have hRW : RowS W (KS w0 bx) T sz kv n xs := (hR.kept fun g' hg' hl => hG.block g' hl fun e => by have := Option.some.inj e; have := hg'.1; omega).kept fun g' _ hl => hb.block g' hl
  have hR4 := hRW.push ⟨by omega, by omega⟩ ho hat
  have hB4 : BoxM x w0 w4 s bx vals := (hB.below hb).grown hg hT fun b e => by
    obtain ⟨h1, cur, h2⟩ := hRW.blk b e
    exact ⟨by have := h1.1; omega, h1.2, cur, h2⟩
  refine ⟨hB4, hB4.set f _, hR4.kept fun g' hg' _ => set_oth hg'.2, fun b h1 h2 h3 => ?_, fun b h1 h2 e => ?_⟩
  · rw [set_oth h1.2, hg.block b (by omega) fun e => h3 e.symm, hb.block b (by omega)]
    exact hG.block b h2 fun e => by have := Option.some.inj e; have := h1.1; omega
  · have e : g = b := Option.some.inj e
    rcases hat with h3 | h3
    · exact h2 (by rw [h3, e])
    · omega
/-- the whole body of a box is written -/
theorem BoxM.setB {x : Cx} {w0 w : World} {s : PS} {bx : Nat} {u0 u1 u2 u3 u4 u5 u6 u7 : Value} (h : BoxM x w0 w s bx #[u0, u1, u2, u3, u4, u5, u6, u7]) (v1 v2 v3 v4 v5 v6 v7 : Value) : BoxM x w0 (setB w bx v1 v2 v3 v4 v5 v6 v7) s bx #[u0, v1, v2, v3, v4, v5, v6, v7] :=
  ⟨(((((((h.set 1 v1).set 2 v2).set 3 v3).set 4 v4).set 5 v5).set 6 v6).set 7 v7).ps, (((((((h.set 1 v1).set 2 v2).set 3 v3).set 4 v4).set 5 v5).set 6 v6).set 7 v7).gr, (((((((h.set 1 v1).set 2 v2).set 3 v3).set 4 v4).set 5 v5).set 6 v6).set 7 v7).res, setB_blk h.box v1 v2 v3 v4 v5 v6 v7, h.lo⟩
def ArmV (B : Nat) (w' : World) (a : List Bs × Cd) (v : Value) : Prop := ∃ (pv : Value) (v1 v2 v3 v4 v5 v6 v7 : Value), v = .agg #[pv, v1, v2, v3, v4, v5, v6, v7] ∧ StrsS w' (fun g => B ≤ g) pv a.1 ∧ CdAt w' (fun g => B ≤ g) [v1, v2, v3, v4, v5, v6, v7] a.2
theorem prr_endM {x : Cx} {w W : World} {s : PS} {ps : List Bs} {c : Cd} {v0 v1 v2 v3 v4 v5 v6 v7 : Value} (hG : Gr x w W) (hP : PsAt W x s) (hz : W.heap[w.heap.size]? = some (.cells zeroA 42 (0, 0))) (hp : StrsS W (fun g => w.heap.size + 1 ≤ g) v0 ps) (hc : CdAt W (fun g => w.heap.size + 1 ≤ g) [v1, v2, v3, v4, v5, v6, v7] c) :
    ∀ W2, W2 = set8 W w.heap.size v0 v1 v2 v3 v4 v5 v6 v7 → PrR x w (.ok (ps, c) s) (ArmV w.heap.size) (.returned (.agg #[v0, v1, v2, v3, v4, v5, v6, v7])) W2 ∧ W2.heap[w.heap.size]? = some (.cells #[v0, v1, v2, v3, v4, v5, v6, v7] 42 (0, 0)) := by
  intro W2 hW2
  have hg := set8_grown W w.heap.size v0 v1 v2 v3 v4 v5 v6 v7
  have hb := set8_blk hz v0 v1 v2 v3 v4 v5 v6 v7
  rw [← hW2] at hg hb
  have hk : ∀ g, w.heap.size + 1 ≤ g → g < W.heap.size → W2.heap[g]? = W.heap[g]? := fun g h1 h2 => hg.block g h2 fun e => by have := Option.some.inj e; omega
  exact ⟨⟨hG.grown hg fun g e => by have := Option.some.inj e; omega, hP.grown hg fun b e => by cases e; exact ⟨_, _, hz, by decide, by decide, by decide⟩, _, rfl, v0, v1, v2, v3, v4, v5, v6, v7, rfl, (hp.kept hk).mono fun g hg _ => by omega, (hc.kept hk).mono fun g hg _ => by omega⟩, hb⟩
theorem res_laidM {x : Cx} {w : World} {s : PS} (h : PsAt w x s) : ∃ W, W = w.alloc (.cells zeroA 42) ∧ PsAt W x s ∧ Gr x w W ∧ W.heap[w.heap.size]? = some (.cells zeroA 42 (0, 0)) ∧ W.heap.size = w.heap.size + 1 := by
  have hb : Below w.heap.size w (w.alloc (.cells zeroA 42)) := (Below.refl _ _).alloc (Nat.le_refl _) _
  exact ⟨_, rfl, h.below hb, Gr.of_below hb, heap_alloc_new w _, by simp⟩
theorem gpass_any {w : World} {x : Cx} {s : PS} (h : PsAt w x s) (t : Bs) (ht : t ≠ []) : ∃ b, Calls Tryz.prog 54 #[ptr x.A, .string (mk t)] w fun e w' => e = .returned (.bool b) ∧ PsAt w' x (if tx s.ts = t then s.nx else s) ∧ Gr x w w' := by
  by_cases he : tx s.ts = t
  · rw [if_pos he]
    exact ⟨true, pass_yes h t ht he⟩
  · rw [if_neg he]
    refine ⟨false, (pass_no h t he).mono ?_⟩
    rintro e w' ⟨rfl, n, rfl⟩
    exact ⟨rfl, h.drewN n, Gr.drewN x w n⟩
def opS (s : PS) : PS := if tx s.ts = [40] then s.nx else s
def armL (ps : List Bs) (l : List Cd) (s4 : PS) : PR (List Bs × Cd) := if tx s4.ts = [59, 59] then .ok (ps, aloneP l) s4.nx.sk else if tx s4.ts = [101, 115, 97, 99] then .ok (ps, aloneP l) s4 else .bad
def armE (n : Nat) (ps : List Bs) (s3 : PS) : PR (List Bs × Cd) := andT (lonP n s3) (armL ps)
def armK (n : Nat) (ps : List Bs) (s2 : PS) : PR (List Bs × Cd) := andT (wantP [41] s2) fun _ s3 => armE n ps s3
set_option maxRecDepth 100000 in
set_option maxHeartbeats 8000000 in
theorem arm_step {x : Cx} {n : Nat} (hn : n ≤ 1000000) (hLo : ∀ w s, PsAt w x s → lonP n s ≠ .out → Calls Tryz.prog 37 #[ptr x.A] w (PrR x w (lonP n s) (ListV w.heap.size))) (w : World) (s : PS) (h : PsAt w x s) (hne : armP (n + 1) s ≠ .out) : Calls Tryz.prog 61 #[ptr x.A] w (PrR x w (armP (n + 1) s) (ArmV w.heap.size)) := by
  have hAl := h.lt
  obtain ⟨W, hW, h0, g0, z0, s0⟩ := res_laidM h
  have HW := hide' hW
  obtain ⟨R, hR⟩ : ∃ R, armP (n + 1) s = R := ⟨_, rfl⟩
  rw [hR] at hne ⊢
  rw [armP] at hR
  have hR : (andT (wordP (opS s)) fun w s1 => andT (patsP n [w] s1) (armK n)) = R := hR
  have HR := hide' (And.intro hR hne)
  obtain ⟨pb, q⟩ := gpass_any h0 [40] (by simp)
  have HH := hide' (And.intro g0 (And.intro z0 s0))
  clear hW h0 g0 z0 s0 h hR hne
  go_enter Tryz.func61, Tryz.ntmps61
  go_wp2_with fail
  rw [← HW.out]
  refine q.mono ?_
  rintro e w0 ⟨rfl, h1, g1⟩
  clear q
  obtain ⟨g0, z0, s0⟩ := HH.out
  have z1 := g1.blk (by omega) z0
  have hs0 := g1.size
  have q := word_step w0 (opS s) h1
  have HJ := hide' (And.intro (g0.trans g1) z1)
  clear h1 g1 g0 z0 z1 HH
  dsimp only
  go_wp2_with fail
  refine q.mono ?_
  rintro e w1 hr
  clear q
  cases hp : wordP (opS s) with
  | out =>
    unfold wordP at hp
    split at hp <;> cases hp
  | bad =>
    rw [hp] at hr
    obtain rfl : R = .bad := by rw [← HR.out.1, hp]; rfl
    obtain ⟨g3, b, p, rfl, hb⟩ := hr
    exact ⟨rfl, HJ.out.1.trans g3, b, p, rfl, hb⟩
  | ok nm s1 =>
    rw [hp] at hr
    have HR2 := hide' (show andT (patsP n [nm] s1) (armK n) = R by rw [← HR.out.1, hp]; rfl)
    obtain ⟨g1, h1, v, rfl, hv⟩ := hr
    obtain rfl : v = .string (mk nm) := hv
    obtain ⟨g0, z0⟩ := HJ.out
    have z1 := g1.blk (by omega) z0
    have hs1 := g1.size
    obtain ⟨w2, hw2⟩ : ∃ w2, w2 = (w1.alloc (.cells #[.string (mk nm)] 9)).alloc (.cells #[.slice (some ⟨w1.heap.size, 0, none⟩) 1 1, .int .i64 0, .bool false, .slice none 0 0, .slice none 0 0, .slice none 0 0, .slice none 0 0, .slice none 0 0] 42) := ⟨_, rfl⟩
    have hsA : (w1.alloc (.cells #[.string (mk nm)] 9)).heap.size = w1.heap.size + 1 := by simp
    have hb1 : Below w1.heap.size w1 (w1.alloc (.cells #[.string (mk nm)] 9)) := (Below.refl _ _).alloc (Nat.le_refl _) _
    have hb2' : Below (w1.alloc (.cells #[.string (mk nm)] 9)).heap.size (w1.alloc (.cells #[.string (mk nm)] 9)) w2 := by rw [hw2]; exact (Below.refl _ _).alloc (Nat.le_refl _) _
    have hb2 : Below w1.heap.size w1 w2 := hb1.trans (hb2'.mono (by simp))
    have zr : w2.heap[w1.heap.size]? = some (.cells #[.string (mk nm)] 9 (0, 0)) := (hb2'.block _ (by omega)).trans (heap_alloc_new w1 _)
    have zb : w2.heap[w1.heap.size + 1]? = some (.cells #[.slice (some ⟨w1.heap.size, 0, none⟩) 1 1, .int .i64 0, .bool false, .slice none 0 0, .slice none 0 0, .slice none 0 0, .slice none 0 0, .slice none 0 0] 42 (0, 0)) := by
      rw [hw2]
      have := heap_alloc_new (w1.alloc (.cells #[.string (mk nm)] 9)) (.cells #[.slice (some ⟨w1.heap.size, 0, none⟩) 1 1, .int .i64 0, .bool false, .slice none 0 0, .slice none 0 0, .slice none 0 0, .slice none 0 0, .slice none 0 0] 42)
      rwa [hsA] at this
    have hR0 : RowS w2 (KS w (w1.heap.size + 1)) 9 1 (.slice (some ⟨w1.heap.size, 0, none⟩) 1 1) 1 ([nm].map fun x => Value.string (mk x)) := ⟨rfl, .inr ⟨w1.heap.size, 1, _, rfl, ⟨by omega, by omega⟩, zr, Nat.le_refl _, by unfold maxLen; omega, rfl, rfl, by omega⟩⟩
    have hB0 : BoxM x w w2 s1 (w1.heap.size + 1) #[.slice (some ⟨w1.heap.size, 0, none⟩) 1 1, .int .i64 0, .bool false, .slice none 0 0, .slice none 0 0, .slice none 0 0, .slice none 0 0, .slice none 0 0] := ⟨h1.below hb2, (g0.trans g1).trans (Gr.of_below hb2), (hb2.block _ (lt_of_block z1)).trans z1, zb, by omega⟩
    obtain ⟨wa, wn, wc, hB, hRo, hwn⟩ : ∃ wa wn wc, BoxM x w w2 s1 (w1.heap.size + 1) #[.slice wa wn wc, .int .i64 0, .bool false, .slice none 0 0, .slice none 0 0, .slice none 0 0, .slice none 0 0, .slice none 0 0] ∧ RowS w2 (KS w (w1.heap.size + 1)) 9 1 (.slice wa wn wc) wn ([nm].map fun x => Value.string (mk x)) ∧ wn = [nm].length := ⟨_, 1, 1, hB0, hR0, rfl⟩
    have HBR := hide' (And.intro hB hRo)
    have HWn := hide' hwn
    obtain ⟨bx, hbx⟩ : ∃ bx, bx = w1.heap.size + 1 := ⟨_, rfl⟩
    have hbl : w.heap.size < bx := by omega
    have HW2 := hide' hw2
    clear hsA hb1 hb2' hb2 hw2 h1 g1 g0 z0 z1 HJ zb zr hp hB hRo hwn hB0 hR0
    rw [← hbx] at HBR
    dsimp only
    go_wp2_with fail
    rw [← HW2.out, ← hbx]
    clear hbx
    go_loopg [] n (fun gk wr => gk ≤ n ∧ ∃ s' wa wn wc ws, BoxM x w wr s' bx #[.slice wa wn wc, .int .i64 0, .bool false, .slice none 0 0, .slice none 0 0, .slice none 0 0, .slice none 0 0, .slice none 0 0] ∧ RowS wr (KS w bx) 9 1 (.slice wa wn wc) wn (ws.map fun x => Value.string (mk x)) ∧ wn = ws.length ∧ wn + gk ≤ n + 1 ∧ andT (patsP gk ws s') (armK n) = R)
    case atStart => exact ⟨Nat.le_refl _, _, wa, wn, wc, [nm], HBR.out.1, HBR.out.2, HWn.out, by have h9 := HWn.out; simp at h9; omega, HR2.out⟩
    clear HBR HWn HR2 wa wn wc
    obtain ⟨hgk, s4, wa, wn, wc, ws, hB, hRo, hwn, hbd, hRL⟩ := hrel
    have HWn := hide' hwn
    have hBs := lt_of_block hB.box
    clear hwn
    cases gk with
    | zero => exact absurd (by rw [← hRL]; rfl) HR.out.2
    | succ gk' =>
    rw [patsP] at hRL
    by_cases hk : tx s4.ts = [124]
    · have q := pass_yes hB.ps [124] (by simp) hk
      rw [if_pos hk] at hRL
      have HRL := hide' hRL
      have HB0 := hide' (And.intro hB hRo)
      clear hB hRo hk hRL
      go_wp2_with fail
      refine q.mono ?_
      rintro e w5 ⟨rfl, h1, g1⟩
      clear q
      have hB := HB0.out.1.call g1 h1 hAl
      have hRo : RowS w5 (KS w bx) 9 1 (.slice wa wn wc) wn (ws.map fun x => Value.string (mk x)) := HB0.out.2.kept fun g' hg' hl => g1.block g' hl fun e => by have := Option.some.inj e; have := hg'.1; omega
      clear g1 h1 HB0
      have HNo := hide' (show wordP s4.nx ≠ .out by unfold wordP; split <;> simp)
      have q := word_step w5.drew s4.nx hB.ps.drew
      have hlW : bx < w5.drew.heap.size := lt_of_block hB.box
      have HB := hide' hB
      have HRo := hide' hRo
      clear hB hRo
      dsimp only
      go_upto_region 4 with fail
      refine wp_region_classX [7] (C := BxC bx 0 (.slice wa wn wc)) (by kernel_rfl) ?_
      have hC : BxC bx 0 (.slice wa wn wc) w5.drew := ⟨by rw [show w5.drew.cell? ⟨bx, 0, none⟩ = w5.cell? ⟨bx, 0, none⟩ from rfl, Lib.cell_of_heap HB.out.box]; rfl⟩
      (refine wpAnyX_take (i := 0) (v := ?_) hC rfl (by kernel_rfl) (by kernel_rfl) (by kernel_rfl) (by kernel_rfl) (fun _ _ _ h => h) (Or.inl ⟨by kernel_rfl, ?_⟩) ?_; rotate_left; (intro w hc; have k3 := hc.c; clear hc; go_simp; try with_reducible rfl))
      (refine wpAnyX_take (i := 1) (v := ?_) hC rfl (by kernel_rfl) (by kernel_rfl) (by kernel_rfl) (by kernel_rfl) (fun _ _ _ h => h) (Or.inl ⟨by kernel_rfl, ?_⟩) ?_; rotate_left; (intro w hc; have k3 := hc.c; clear hc; go_simp; try with_reducible rfl))
      (refine wpAnyX_take (i := 2) (v := ?_) hC rfl (by kernel_rfl) (by kernel_rfl) (by kernel_rfl) (by kernel_rfl) (fun _ _ _ h => h) (Or.inl ⟨by kernel_rfl, ?_⟩) ?_; rotate_left; (intro w hc; have k3 := hc.c; clear hc; go_simp; try with_reducible rfl))
      refine wpAnyX_one (i := 3) (by kernel_rfl) (wpOp_wanted rfl (by rfl) ?_)
      go_simp
      refine q.mono ?_
      rintro e w3 hr
      clear q hC
      cases hp : wordP s4.nx with
      | out => exact absurd hp HNo.out
      | bad =>
        rw [hp] at hr
        obtain rfl : R = .bad := by rw [← HRL.out, hp]; rfl
        obtain ⟨g3, b, p, rfl, hb⟩ := hr
        exact ⟨rfl, HB.out.gr.trans ((Gr.drew x _).trans g3), b, p, rfl, hb⟩
      | ok rr s9 =>
        rw [hp] at hr
        have HRN := hide' (show andT (patsP gk' (ws ++ [rr]) s9) (armK n) = R by rw [← HRL.out, hp]; rfl)
        obtain ⟨g3, h3, v, rfl, hv⟩ := hr
        obtain rfl : v = .string (mk rr) := hv
        have hB3 := HB.out.drew.call g3 h3 hAl
        have hs3 := g3.size
        have hb4 : Below w3.heap.size w3 (w3.alloc (.cells #[.string (mk rr)] 9)) := (Below.refl _ _).alloc (Nat.le_refl _) _
        have hB4 := hB3.below hb4
        have hC3 : BxC bx 0 (.slice wa wn wc) w3 := ⟨by rw [Lib.cell_of_heap hB3.box]; rfl⟩
        have hC4 : BxC bx 0 (.slice wa wn wc) (w3.alloc (.cells #[.string (mk rr)] 9)) := ⟨by rw [Lib.cell_of_heap hB4.box]; rfl⟩
        have hR4 : RowS (w3.alloc (.cells #[.string (mk rr)] 9)) (KS w bx) 9 1 (.slice wa wn wc) wn (ws.map fun x => Value.string (mk x)) := (HRo.out.kept fun g' hg' hl => g3.block g' hl fun e => by have h0 := Option.some.inj e; (try dsimp only at h0); have := hg'.1; omega).kept fun g' _ hl => hb4.block g' hl
        have hown := hR4.own
        have hnew : ∀ (j : Nat) u, ([.string (mk rr)] : List Value)[j]? = some u → (w3.alloc (.cells #[.string (mk rr)] 9)).cell? ((⟨w3.heap.size, 0, none⟩ : Addr).add j) = some u := fun j u hj => by rw [Addr.add_lit, Nat.zero_add, Lib.cell_of_heap (heap_alloc_new w3 _)]; simpa using hj
        have HJ := hide' (And.intro hB3 g3)
        clear hB3 hB4 hR4 g3 h3 hb4 hp
        dsimp only
        refine ⟨hC3, ?_⟩
        refine wpAnyX_one (i := 4) (by kernel_rfl) (wpOp_wanted rfl (by rfl) ?_)
        go_simp
        obtain ⟨inf, hi, hz0, hz1, hz2⟩ := info_parts infoStr
        refine wpAnyX_one (i := 5) (by kernel_rfl) (wpOp_wanted rfl (by rfl) ?_)
        refine wp_append_lies _ _ _ 23 rfl 0 9 inf _ 1 16 Tryz.underlying23 hi hz0 hz1 hz2 rfl (by decide) (.slice wa wn wc) wn (ws.map fun x => Value.string (mk x)) rfl hown ⟨w3.heap.size, 0, none⟩ 1 1 [.string (mk rr)] rfl rfl hnew (by simp [Value.oneCell']) (by decide) (by unfold maxLen; omega) (by omega) (Nat.zero_le _) _ rfl ?_
        intro g cap w4 ho hg hat _
        clear hi hz0 hz1 hz2 hown hnew hC3 hC4
        obtain ⟨hB3, g3⟩ := HJ.out
        obtain ⟨hB4, hB5, hR5, hkp, hap⟩ := push_rowM (w2 := w5.drew) (f := 0) hB3 (HRo.out.kept fun _ _ _ => rfl) (by decide) g3 hAl hlW ho hg hat
        have e5 : w4.cell? ⟨bx, 0, none⟩ = some (.slice wa wn wc) := by rw [Lib.cell_of_heap hB4.box]; rfl
        have f5 := Lib.frozen_of_heap hB4.box 0
        have hC5 : BxC bx 0 (.slice wa wn wc) w4 := ⟨e5⟩
        have HB5 := hide' hB5
        have HR5 := hide' hR5
        have HKP := hide' (And.intro hkp hap)
        clear hB3 hB4 hB5 hR5 g3 ho hg hat HJ HB HRo hkp hap
        refine ⟨fun _ => hC5, ?_⟩
        refine wpAnyX_one (i := 6) (by kernel_rfl) (wpOp_wanted rfl (by rfl) ?_)
        go_simp
        refine wpAnyX_one (i := 7) (by kernel_rfl) (wpOp_wanted rfl (by rfl) ?_)
        go_simp
        refine wpAnyX_done (by kernel_rfl) ?_ _
        clear hC5 e5 f5
        obtain ⟨w9, hw9⟩ : ∃ w9, w9 = w4.setCell ⟨bx, 0, none⟩ (.slice (some ⟨g, 0, none⟩) (wn + 1) cap) := ⟨_, rfl⟩
        rw [← hw9] at HB5 HR5 ⊢
        clear hw9
        go_wp2_with fail
        go_roundg gk'
        case rel => exact ⟨by omega, s9, some ⟨g, 0, none⟩, wn + 1, cap, ws ++ [rr], HB5.out, by rw [List.map_append]; exact HR5.out, by rw [HWn.out]; simp, by omega, HRN.out⟩
        case measure => omega
    · have q := pass_no hB.ps [124] hk
      rw [if_neg hk] at hRL
      have HRT := hide' (show armK n ws s4 = R from hRL)
      have HB0 := hide' (And.intro hB hRo)
      clear hB hRo hk hRL
      go_wp2_with fail
      refine q.mono ?_
      rintro e w5 ⟨rfl, m, hw5⟩
      clear q
      have hB : BoxM x w w5 s4 bx #[.slice wa wn wc, .int .i64 0, .bool false, .slice none 0 0, .slice none 0 0, .slice none 0 0, .slice none 0 0, .slice none 0 0] := by rw [hw5]; exact HB0.out.1.below (below_drewn m)
      have hRo : RowS w5 (KS w bx) 9 1 (.slice wa wn wc) wn (ws.map fun x => Value.string (mk x)) := by rw [hw5]; exact HB0.out.2.kept fun _ _ _ => rfl
      clear hw5 HB0
      by_cases hcl : tx s4.ts = [41]
      · have q := want_yes hB.ps [41] (by simp) hcl
        have HRE := hide' (show armE n ws s4.nx = R by rw [← HRT.out, armK, wantP, if_pos hcl]; rfl)
        have HB0 := hide' (And.intro hB hRo)
        clear hB hRo hcl HRT
        dsimp only
        go_wp2_with fail
        refine q.mono ?_
        rintro e w6 ⟨rfl, h1, g1⟩
        clear q
        have hB := HB0.out.1.call g1 h1 hAl
        have hRo : RowS w6 (KS w bx) 9 1 (.slice wa wn wc) wn (ws.map fun x => Value.string (mk x)) := HB0.out.2.kept fun g' hg' hl => g1.block g' hl fun e => by have := Option.some.inj e; have := hg'.1; omega
        clear g1 HB0
        have hlW : bx < w6.heap.size := lt_of_block hB.box
        have HNo := hide' (show lonP n s4.nx ≠ .out from fun e => HR.out.2 (by rw [← HRE.out, armE, e]; rfl))
        have q := hLo w6 s4.nx h1 HNo.out
        have HB0 := hide' (And.intro hB hRo)
        clear hB hRo h1
        dsimp only
        go_wp2_with fail
        refine q.mono ?_
        rintro e w7 hr
        clear q
        cases hp : lonP n s4.nx with
        | out => exact absurd hp HNo.out
        | bad =>
          rw [hp] at hr
          obtain rfl : R = .bad := by rw [← HRE.out, armE, hp]; rfl
          obtain ⟨g3, b, p, rfl, hb⟩ := hr
          exact ⟨rfl, HB0.out.1.gr.trans g3, b, p, rfl, hb⟩
        | ok l s6 =>
          rw [hp] at hr
          have HRM := hide' (show armL ws l s6 = R by rw [← HRE.out, armE, hp]; rfl)
          obtain ⟨g1, h1, v, rfl, hv⟩ := hr
          have q := alone_any _ l w7 v hv
          have hB := HB0.out.1.call g1 h1 hAl
          have hRo : RowS w7 (KS w bx) 9 1 (.slice wa wn wc) wn (ws.map fun x => Value.string (mk x)) := HB0.out.2.kept fun g' hg' hl => g1.block g' hl fun e => by have := Option.some.inj e; have := hg'.1; omega
          have hs7 := g1.size
          have hlo := hB.lo
          obtain ⟨kv, kc, rfl, hK⟩ := hv
          clear hK HB0 h1 g1 hp HRE
          have HB0 := hide' (And.intro hB hRo)
          clear hB hRo
          dsimp only
          go_wp2_with fail
          refine q.mono ?_
          rintro e w8 ⟨hb8, v3, rfl, hv3⟩
          clear q
          obtain ⟨k, nt, a1, a2, a3, a4, a5, n1, n2, n3, n4, n5, c1, c2, c3, c4, c5, rfl, hc⟩ := hv3.form
          have hB := HB0.out.1.below hb8
          have hRo : RowS w8 (KS w bx) 9 1 (.slice wa wn wc) wn (ws.map fun x => Value.string (mk x)) := HB0.out.2.kept fun g' _ hl => hb8.block g' hl
          have hC : CdAt w8 (KS w bx) [.int .i64 k, .bool nt, .slice a1 n1 c1, .slice a2 n2 c2, .slice a3 n3 c3, .slice a4 n4 c4, .slice a5 n5 c5] (aloneP l) := hc.mono fun g hg _ => ⟨by omega, by omega⟩
          obtain ⟨i0, i1, i2, i3, i4, i5, i6, i7⟩ := cells8 hB.box
          obtain ⟨j0, j1, j2, j3, j4, j5, j6, j7⟩ := fz8 hB.box
          obtain ⟨w9, hw9⟩ : ∃ w9, w9 = setB w8 bx (.int .i64 k) (.bool nt) (.slice a1 n1 c1) (.slice a2 n2 c2) (.slice a3 n3 c3) (.slice a4 n4 c4) (.slice a5 n5 c5) := ⟨_, rfl⟩
          have hg9 := setB_grown w8 bx (.int .i64 k) (.bool nt) (.slice a1 n1 c1) (.slice a2 n2 c2) (.slice a3 n3 c3) (.slice a4 n4 c4) (.slice a5 n5 c5)
          rw [← hw9] at hg9
          have hB9 : BoxM x w w9 s6 bx #[.slice wa wn wc, .int .i64 k, .bool nt, .slice a1 n1 c1, .slice a2 n2 c2, .slice a3 n3 c3, .slice a4 n4 c4, .slice a5 n5 c5] := by rw [hw9]; exact hB.setB _ _ _ _ _ _ _
          have hk9 : ∀ g, KS w bx g → g < w8.heap.size → w9.heap[g]? = w8.heap[g]? := fun g hg hl => hg9.block g hl fun e => hg.2 (Option.some.inj e)
          have hR9 := hRo.kept hk9
          have hC9 := hC.kept hk9
          clear hB hRo hC hb8 hv3 hc hg9 hk9 HB0
          unfold setB at hw9
          have HW9 := hide' hw9
          clear hw9
          by_cases hss : tx s6.ts = [59, 59]
          · have q := pass_yes hB9.ps [59, 59] (by simp) hss
            obtain rfl : R = .ok (ws, aloneP l) s6.nx.sk := by rw [← HRM.out, armL, if_pos hss]
            have HB0 := hide' (And.intro hB9 (And.intro hR9 hC9))
            clear hB9 hR9 hC9 hss
            dsimp only
            go_wp2_with fail
            rw [← HW9.out]
            clear i0 i1 i2 i3 i4 i5 i6 i7 j0 j1 j2 j3 j4 j5 j6 j7
            refine q.mono ?_
            rintro e wA ⟨rfl, h1, g1⟩
            clear q
            have hB := HB0.out.1.call g1 h1 hAl
            have hRo : RowS wA (KS w bx) 9 1 (.slice wa wn wc) wn (ws.map fun x => Value.string (mk x)) := HB0.out.2.1.kept fun g' hg' hl => g1.block g' hl fun e => by have := Option.some.inj e; have := hg'.1; omega
            have hC : CdAt wA (KS w bx) [.int .i64 k, .bool nt, .slice a1 n1 c1, .slice a2 n2 c2, .slice a3 n3 c3, .slice a4 n4 c4, .slice a5 n5 c5] (aloneP l) := HB0.out.2.2.kept fun g' hg' hl => g1.block g' hl fun e => by have := Option.some.inj e; have := hg'.1; omega
            clear g1 h1 HB0
            have q := skip_any hB.ps
            have HB0 := hide' (And.intro hB (And.intro hRo hC))
            clear hB hRo hC
            dsimp only
            go_wp2_with fail
            refine q.mono ?_
            rintro e wB ⟨rfl, h1, g1⟩
            clear q
            have hB := HB0.out.1.call g1 h1 hAl
            have hRo : RowS wB (KS w bx) 9 1 (.slice wa wn wc) wn (ws.map fun x => Value.string (mk x)) := HB0.out.2.1.kept fun g' hg' hl => g1.block g' hl fun e => by have := Option.some.inj e; have := hg'.1; omega
            have hC : CdAt wB (KS w bx) [.int .i64 k, .bool nt, .slice a1 n1 c1, .slice a2 n2 c2, .slice a3 n3 c3, .slice a4 n4 c4, .slice a5 n5 c5] (aloneP l) := HB0.out.2.2.kept fun g' hg' hl => g1.block g' hl fun e => by have := Option.some.inj e; have := hg'.1; omega
            clear g1 h1 HB0
            have hRz : StrsS wB (fun g => w.heap.size + 1 ≤ g) (.slice wa wn wc) ws := by
              have h9 := hRo.mono (S' := fun g => w.heap.size + 1 ≤ g) fun g hg _ => hg.1
              have e9 := HWn.out
              subst e9
              exact h9
            have HE := hide' (prr_endM hB.gr hB.ps hB.res hRz (hC.mono fun g hg _ => hg.1))
            obtain ⟨o0, o1, o2, o3, o4, o5, o6, o7⟩ := cells8 hB.box
            obtain ⟨r0, r1, r2, r3, r4, r5, r6, r7⟩ := cells8 hB.res
            obtain ⟨f0, f1, f2, f3, f4, f5, f6, f7⟩ := fz8 hB.res
            clear hB hRo hC hRz
            (try dsimp only)
            go_wp2
            obtain ⟨hV, hbk⟩ := HE.out _ rfl
            obtain ⟨d0, d1, d2, d3, d4, d5, d6, d7⟩ := cells8 hbk
            refine bodyPost_ret (v := .agg #[.slice wa wn wc, .int .i64 k, .bool nt, .slice a1 n1 c1, .slice a2 n2 c2, .slice a3 n3 c3, .slice a4 n4 c4, .slice a5 n5 c5]) (by simp [results, Tryz.results61, go_sem, d0, d1, d2, d3, d4, d5, d6, d7]) rfl ?_
            exact hV
          · have q := pass_no hB9.ps [59, 59] hss
            have HRN := hide' (show (if tx s6.ts = [101, 115, 97, 99] then .ok (ws, aloneP l) s6 else .bad) = R by rw [← HRM.out, armL, if_neg hss])
            have HB0 := hide' (And.intro hB9 (And.intro hR9 hC9))
            clear hB9 hR9 hC9 hss HRM
            dsimp only
            go_wp2_with fail
            rw [← HW9.out]
            clear i0 i1 i2 i3 i4 i5 i6 i7 j0 j1 j2 j3 j4 j5 j6 j7
            refine q.mono ?_
            rintro e wA ⟨rfl, m, hwA⟩
            clear q
            have hB : BoxM x w wA s6 bx #[.slice wa wn wc, .int .i64 k, .bool nt, .slice a1 n1 c1, .slice a2 n2 c2, .slice a3 n3 c3, .slice a4 n4 c4, .slice a5 n5 c5] := by rw [hwA]; exact HB0.out.1.below (below_drewn m)
            have hRo : RowS wA (KS w bx) 9 1 (.slice wa wn wc) wn (ws.map fun x => Value.string (mk x)) := by rw [hwA]; exact HB0.out.2.1.kept fun _ _ _ => rfl
            have hC : CdAt wA (KS w bx) [.int .i64 k, .bool nt, .slice a1 n1 c1, .slice a2 n2 c2, .slice a3 n3 c3, .slice a4 n4 c4, .slice a5 n5 c5] (aloneP l) := by rw [hwA]; exact HB0.out.2.2.kept fun _ _ _ => rfl
            clear hwA HB0
            have q := text_any hB.ps
            obtain ⟨tt, htt⟩ : ∃ tt, tx s6.ts = tt := ⟨_, rfl⟩
            rw [htt] at q
            have HT := hide' htt
            have HB0 := hide' (And.intro hB (And.intro hRo hC))
            clear hB hRo hC htt
            dsimp only
            go_wp2_with fail
            refine q.mono ?_
            rintro e wB ⟨rfl, m, hwB⟩
            clear q
            have hB : BoxM x w wB s6 bx #[.slice wa wn wc, .int .i64 k, .bool nt, .slice a1 n1 c1, .slice a2 n2 c2, .slice a3 n3 c3, .slice a4 n4 c4, .slice a5 n5 c5] := by rw [hwB]; exact HB0.out.1.below (below_drewn m)
            have hRo : RowS wB (KS w bx) 9 1 (.slice wa wn wc) wn (ws.map fun x => Value.string (mk x)) := by rw [hwB]; exact HB0.out.2.1.kept fun _ _ _ => rfl
            have hC : CdAt wB (KS w bx) [.int .i64 k, .bool nt, .slice a1 n1 c1, .slice a2 n2 c2, .slice a3 n3 c3, .slice a4 n4 c4, .slice a5 n5 c5] (aloneP l) := by rw [hwB]; exact HB0.out.2.2.kept fun _ _ _ => rfl
            clear hwB HB0
            by_cases hes : tt = [101, 115, 97, 99]
            · obtain rfl : R = .ok (ws, aloneP l) s6 := by rw [← HRN.out, if_pos (by rw [HT.out]; exact hes)]
              subst hes
              have hRz : StrsS wB (fun g => w.heap.size + 1 ≤ g) (.slice wa wn wc) ws := by
                have h9 := hRo.mono (S' := fun g => w.heap.size + 1 ≤ g) fun g hg _ => hg.1
                have e9 := HWn.out
                subst e9
                exact h9
              have HE := hide' (prr_endM hB.gr hB.ps hB.res hRz (hC.mono fun g hg _ => hg.1))
              obtain ⟨o0, o1, o2, o3, o4, o5, o6, o7⟩ := cells8 hB.box
              obtain ⟨r0, r1, r2, r3, r4, r5, r6, r7⟩ := cells8 hB.res
              obtain ⟨f0, f1, f2, f3, f4, f5, f6, f7⟩ := fz8 hB.res
              clear hB hRo hC hRz
              (try dsimp only)
              go_wp2
              obtain ⟨hV, hbk⟩ := HE.out _ rfl
              obtain ⟨d0, d1, d2, d3, d4, d5, d6, d7⟩ := cells8 hbk
              refine bodyPost_ret (v := .agg #[.slice wa wn wc, .int .i64 k, .bool nt, .slice a1 n1 c1, .slice a2 n2 c2, .slice a3 n3 c3, .slice a4 n4 c4, .slice a5 n5 c5]) (by simp [results, Tryz.results61, go_sem, d0, d1, d2, d3, d4, d5, d6, d7]) rfl ?_
              exact hV
            · obtain rfl : R = .bad := by rw [← HRN.out, if_neg (by rw [HT.out]; exact hes)]
              have hes' : (tt == [101, 115, 97, 99]) = false := beq_eq_false_iff_ne.2 hes
              have q := giveUp_any hB.ps 31
              have HG := hide' hB.gr
              clear hB hRo hC hes HT HRN
              dsimp only
              go_wp2_with fail
              refine q.mono ?_
              rintro e wC ⟨g3, b, p, rfl, hb⟩
              exact ⟨rfl, HG.out.trans g3, b, p, rfl, hb⟩
      · have q := want_no hB.ps [41] hcl
        obtain rfl : R = .bad := by rw [← HRT.out, armK, wantP, if_neg hcl]; rfl
        have HG := hide' hB.gr
        clear hB hRo hcl HRT
        dsimp only
        go_wp2_with fail
        refine q.mono ?_
        rintro e w6 ⟨g3, b, p, rfl, hb⟩
        exact ⟨rfl, HG.out.trans g3, b, p, rfl, hb⟩
end Go.Proofs.YtcemlhfodpelaaaGreatDoor
