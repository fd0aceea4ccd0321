/- The contract of anvillaw5.Spoil: it writes over rows of the call's own, and nothing else. A file system and the reference's, side by side. -/
import Derived.Test.YtpbfhbnkalambaaGreatDoorZn
import Derived.Test.YtpbfhbnkalambaaGreatDoorZx
import Derived.Test.YtpbfhbnkalambaaGreatDoorZh
import Derived.Test.YtpbfhbnkalambaaGreatDoorZv
import Derived.Test.YtpbfhbnkalambaaGreatDoorZs
namespace Go.Proofs.YtpbfhbnkalambaaGreatDoor
open Go.RowKit Go.Maps

/-- a slice of bytes in a row from S on, whatever bytes they are -/
def DatB (w : World) (S : Nat → Prop) (v : Value) : Prop :=
  v = .slice none 0 0 ∨ ∃ g n cap cur, v = .slice (some ⟨g, 0, none⟩) n cap ∧ S g ∧ w.heap[g]? = some (.cells cur 5 (0, 0)) ∧ n ≤ 1000000 ∧ ∀ j, j < n → ∃ x : UInt8, cur[j]? = some (.int .u8 (x.toNat : Nat))
theorem Dat.datB {w : World} {v : Value} {bs : Bs} {S : Nat → Prop} (h : Dat w v bs) (hg : ∀ g, v.ownBlock = some g → S g) (hl : bs.length ≤ 1000000) : DatB w S v := by
  rcases h with ⟨rfl, _⟩ | ⟨g, cap, cur, rfl, h1, h2, h3, h4, h5⟩
  · exact .inl rfl
  · refine .inr ⟨g, _, cap, cur, rfl, hg g rfl, h1, hl, fun j hj => ⟨bs[j], ?_⟩⟩
    have e : (Lib.byteCells bs)[j]? = some (.int .u8 (bs[j].toNat : Nat)) := by
      unfold Lib.byteCells
      rw [List.getElem?_map, List.getElem?_eq_getElem hj]
      rfl
    rw [← h5, List.getElem?_take_of_lt hj] at e
    simpa using e
theorem DatB.len {w : World} {S : Nat → Prop} {v : Value} (h : DatB w S v) : ∃ a n cap, v = .slice a n cap ∧ n ≤ 1000000 := by
  rcases h with rfl | ⟨g, n, cap, cur, rfl, _, _, h, _⟩
  · exact ⟨_, _, _, rfl, by omega⟩
  · exact ⟨_, _, _, rfl, h⟩
theorem DatB.kept {w w' : World} {S : Nat → Prop} {v : Value} (h : DatB w S v) (hk : ∀ (g : Nat) (cur : Array Value), w.heap[g]? = some (Obj.cells cur 5 (0, 0)) → w'.heap[g]? = w.heap[g]?) : DatB w' S v := by
  rcases h with h | ⟨g, n, cap, cur, rfl, h1, h2, r⟩
  · exact .inl h
  · exact .inr ⟨g, n, cap, cur, rfl, h1, (hk g cur h2).trans h2, r⟩
/-- a byte that is written into a row leaves rows of bytes -/
theorem DatB.set {w : World} {S : Nat → Prop} {v : Value} (h : DatB w S v) {g k : Nat} {x : UInt8} : DatB (w.setCell ⟨g, k, none⟩ (.int .u8 (x.toNat : Nat))) S v := by
  rcases h with h | ⟨g', n, cap, cur, rfl, h1, h2, h3, h4⟩
  · exact .inl h
  · by_cases e : g' = g
    · subst e
      refine .inr ⟨g', n, cap, _, rfl, h1, set_row h2 k _, h3, fun j hj => ?_⟩
      by_cases e2 : k = j
      · subst e2
        refine ⟨x, ?_⟩
        obtain ⟨y, hy⟩ := h4 k hj
        have : k < cur.size := (Array.getElem?_eq_some_iff.1 hy).1
        simp [this]
      · obtain ⟨y, hy⟩ := h4 j hj
        exact ⟨y, by rw [Array.getElem?_setIfInBounds_ne e2]; exact hy⟩
    · exact .inr ⟨g', n, cap, cur, rfl, h1, (Below.heap_setCell w ⟨g, k, none⟩ _ g' (by simpa using e)).trans h2, h3, h4⟩
/-- a row of nodes that may be written over -/
structure SpRow (w : World) (S : Nat → Prop) (g n i : Nat) : Prop where
  hi : S g
  row : ∃ cur, w.heap[g]? = some (.cells cur 55 (0, 0)) ∧ n * 4 ≤ cur.size
  cel : ∀ j, i ≤ j → j < n → ∃ dv, w.cell? ⟨g, j * 4 + 3, none⟩ = some dv ∧ DatB w S dv
theorem DatB.below {w w' : World} {S : Nat → Prop} {v : Value} (h : DatB w S v) (hb : Below w.heap.size w w') : DatB w' S v := h.kept fun _ _ hg => hb.block _ (lt_of_block hg)
theorem SpRow.below {w w' : World} {S : Nat → Prop} {g n i : Nat} (h : SpRow w S g n i) (hb : Below w.heap.size w w') : SpRow w' S g n i := by
  obtain ⟨h1, ⟨cur, h2, h3⟩, h4⟩ := h
  refine ⟨h1, ⟨cur, (hb.block _ (lt_of_block h2)).trans h2, h3⟩, fun j hj hn => ?_⟩
  obtain ⟨dv, c, d⟩ := h4 j hj hn
  exact ⟨dv, (hb.cell (p := ⟨g, j * 4 + 3, none⟩) (lt_of_block h2)).trans c, d.below hb⟩
theorem cell_at {w : World} {g k : Nat} {cur : Array Value} {T : TypeId} (h : w.heap[g]? = some (.cells cur T (0, 0))) (hk : k < cur.size) : w.cell? ⟨g, k, none⟩ = some cur[k] := by
  rw [Lib.cell_of_heap h]
  simp [hk]
theorem Turn.set {S : Nat → Prop} {w w' : World} (h : Turn S w w') {g : Nat} (hg : S g) (c : Nat) (v : Value) : Turn S w (w'.setCell ⟨g, c, none⟩ v) :=
  ⟨h.os, h.tape, h.output, Nat.le_trans h.size (Nat.le_of_eq (by simp)), fun k hk hn => (Below.heap_setCell w' ⟨g, c, none⟩ v k (fun e => hn (by simpa using e ▸ hg))).trans (h.block k hk hn)⟩
theorem SpRow.set5 {w : World} {S : Nat → Prop} {g n i g' c : Nat} {cur : Array Value} {x : UInt8} (h : SpRow w S g n i) (hg : w.heap[g']? = some (.cells cur 5 (0, 0))) : SpRow (w.setCell ⟨g', c, none⟩ (.int .u8 (x.toNat : Nat))) S g n i := by
  obtain ⟨h1, ⟨cur', h2, h3⟩, h4⟩ := h
  have hne : g ≠ g' := fun e => by rw [e, hg] at h2; simp at h2
  have hk : (w.setCell ⟨g', c, none⟩ (.int .u8 (x.toNat : Nat))).heap[g]? = w.heap[g]? := Below.heap_setCell w ⟨g', c, none⟩ _ g (by simpa using hne)
  refine ⟨h1, ⟨cur', hk.trans h2, h3⟩, fun j hj hn => ?_⟩
  obtain ⟨dv, e1, e2⟩ := h4 j hj hn
  exact ⟨dv, (World.cell?_of_block (a := ⟨g, j * 4 + 3, none⟩) hk).trans e1, e2.set⟩
theorem SpRow.set55 {w : World} {S : Nat → Prop} {g n i c : Nat} {v : Value} (h : SpRow w S g n i) (hc : c < i * 4) : SpRow (w.setCell ⟨g, c, none⟩ v) S g n i := by
  obtain ⟨h1, ⟨cur, h2, h3⟩, h4⟩ := h
  refine ⟨h1, ⟨_, set_row h2 c v, by simpa using h3⟩, fun j hj hn => ?_⟩
  obtain ⟨dv, e1, e2⟩ := h4 j hj hn
  refine ⟨dv, ?_, e2.kept fun g' cur' hg' => Below.heap_setCell w ⟨g, c, none⟩ v g' (fun e => by simp only at e; rw [e, h2] at hg'; simp at hg')⟩
  rw [Lib.cell_of_heap h2] at e1
  rw [Lib.cell_of_heap (set_row h2 c v), Array.getElem?_setIfInBounds_ne (by omega)]
  exact e1
theorem SpRow.mono {w : World} {S : Nat → Prop} {g n i j : Nat} (h : SpRow w S g n i) (hij : i ≤ j) : SpRow w S g n j := ⟨h.hi, h.row, fun k hk hn => h.cel k (Nat.le_trans hij hk) hn⟩
theorem xor_byte (x : UInt8) : ∃ y : UInt8, bits BinOp.xor IntKind.u8 (x.toNat : Int) 255 = (y.toNat : Nat) := by
  refine ⟨x ^^^ 255, ?_⟩
  have key : ∀ n : Fin 256, bits BinOp.xor IntKind.u8 (n.val : Int) 255 = ((n.val ^^^ 255 : Nat) : Int) := by set_option maxRecDepth 100000 in decide
  rw [UInt8.toNat_xor]
  exact key ⟨x.toNat, UInt8.toNat_lt x⟩
set_option maxRecDepth 100000 in
set_option maxHeartbeats 4000000 in
theorem spoil_row (S : Nat → Prop) (g n cap : Nat) (clk rm : Int) (w : World) (hn : n ≤ 1000000) (_hc : n ≤ cap) (h : SpRow w S g n 0) :
    Calls Tryz.prog 14 #[.agg #[.slice (some ⟨g, 0, none⟩) n cap, .int .i64 clk, .int .i64 rm]] w fun r w' => r = .returned (.tuple #[]) ∧ Turn S w w' := by
  go_enter Tryz.func14, Tryz.ntmps14
  go_wp2
  have z0 := heap_alloc_new w (.cells #[.slice (some ⟨g, 0, none⟩) n cap, .int .i64 clk, .int .i64 rm] 24)
  have hb0 : Below w.heap.size w (w.alloc (.cells #[.slice (some ⟨g, 0, none⟩) n cap, .int .i64 clk, .int .i64 rm] 24)) := (Below.refl _ _).alloc (Nat.le_refl _) _
  obtain ⟨w0, hw0⟩ : ∃ w0, w0 = w.alloc (.cells #[.slice (some ⟨g, 0, none⟩) n cap, .int .i64 clk, .int .i64 rm] 24) := ⟨_, rfl⟩
  rw [← hw0] at z0 hb0 ⊢
  have h0 : SpRow w0 S g n 0 := h.below hb0
  clear hw0
  go_loopw [2, 3, 4] (fun i _ _ wr => ∃ k : Nat, k ≤ n ∧ i = .int .i64 k ∧ SpRow wr S g n k ∧ wr.heap[w.heap.size]? = some (.cells #[.slice (some ⟨g, 0, none⟩) n cap, .int .i64 clk, .int .i64 rm] 24 (0, 0)) ∧ Turn S w wr) (fun i _ _ _ => n - (intOf i).toNat)
  case atStart => exact ⟨0, Nat.zero_le _, rfl, h0, z0, Turn.of_below hb0⟩
  case round =>
    obtain ⟨k, hk, rfl, hS, hB, hT⟩ := hrel
    have a0 : wr.cell? ⟨w.heap.size, 0, none⟩ = some (.slice (some ⟨g, 0, none⟩) n cap) := by rw [Lib.cell_of_heap hB]; rfl
    by_cases hkl : k < n
    · have k1 : (k : Int) < n := by omega
      obtain ⟨dv, hd3, hD⟩ := hS.cel k (Nat.le_refl _) hkl
      obtain ⟨da, dn, dc, hdv, hdn⟩ := hD.len
      rw [hdv] at hd3 hD
      obtain ⟨wo, rfl⟩ : ∃ wo, wo = wr := ⟨_, rfl⟩
      clear h h0 z0 hb0
      go_wp2
      go_loopw [4] (fun j wi => ∃ m : Nat, m ≤ dn ∧ j = .int .i64 m ∧ SpRow wi S g n k ∧ DatB wi S (.slice da dn dc) ∧ wi.heap[w.heap.size]? = some (.cells #[.slice (some ⟨g, 0, none⟩) n cap, .int .i64 clk, .int .i64 rm] 24 (0, 0)) ∧ Turn S w wi) (fun j _ => dn - (intOf j).toNat)
      case atStart => exact ⟨0, Nat.zero_le _, rfl, hS, hD, hB, hT⟩
      case round =>
        obtain ⟨m, hm, rfl, hSi, hDi, hBi, hTi⟩ := hrel
        by_cases hml : m < dn
        · have m1 : (m : Int) < dn := by omega
          rcases hDi with e | ⟨g', n', cap', cur, e, h1, h2, h3, h4⟩
          · cases e; omega
          · cases e
            obtain ⟨x, hx⟩ := h4 m hml
            have c1 : wr.cell? ⟨g', m, none⟩ = some (.int .u8 (x.toNat : Nat)) := by rw [Lib.cell_of_heap h2]; exact hx
            have f1 := Lib.frozen_of_heap h2 m
            go_wp2
            obtain ⟨y, hy⟩ := xor_byte x
            rw [hy]
            exact ⟨⟨m + 1, by omega, by simp, hSi.set5 h2, DatB.set (.inr ⟨g', dn, dc, cur, rfl, h1, h2, h3, h4⟩), (Below.heap_setCell wr ⟨g', m, none⟩ _ w.heap.size (fun e => by simp only at e; rw [e, h2] at hBi; simp at hBi)).trans hBi, hTi.set h1 _ _⟩, by simp [intOf]; omega⟩
        · obtain rfl : m = dn := by omega
          have m1 : ¬ (m : Int) < m := by omega
          obtain ⟨cur, hg, hgs⟩ := hSi.row
          have b0' : wr.cell? ⟨w.heap.size, 0, none⟩ = some (.slice (some ⟨g, 0, none⟩) n cap) := by rw [Lib.cell_of_heap hBi]; rfl
          have f0 := Lib.frozen_of_heap hg (k * 4)
          have f1 := Lib.frozen_of_heap hg (k * 4 + 1)
          have f2 := Lib.frozen_of_heap hg (k * 4 + 2)
          have f3 := Lib.frozen_of_heap hg (k * 4 + 3)
          have c0 := cell_at (k := k * 4) hg (by omega)
          have c1 := cell_at (k := k * 4 + 1) hg (by omega)
          have c2 := cell_at (k := k * 4 + 2) hg (by omega)
          have c3 := cell_at (k := k * 4 + 3) hg (by omega)
          go_wp2
          have hS1 := hSi.mono (Nat.le_succ k)
          have hne : w.heap.size ≠ g := fun e => by rw [e, hg] at hBi; simp at hBi
          have hkk : ∀ (W : World) c v, (W.setCell ⟨g, c, none⟩ v).heap[w.heap.size]? = W.heap[w.heap.size]? := fun W c v => Below.heap_setCell W ⟨g, c, none⟩ v _ (by simpa using hne)
          refine ⟨⟨k + 1, by omega, by simp, (((hS1.set55 (by omega)).set55 (by omega)).set55 (by omega)).set55 (by omega), ?_, (((hTi.set hSi.hi _ _).set hSi.hi _ _).set hSi.hi _ _).set hSi.hi _ _⟩, by simp [intOf]; omega⟩
          rw [hkk, hkk, hkk, hkk]
          exact hBi
    · obtain rfl : k = n := by omega
      have k1 : ¬ (k : Int) < k := by omega
      go_wp2
      go_end0
      exact ⟨rfl, hT⟩
set_option maxRecDepth 100000 in
set_option maxHeartbeats 4000000 in
theorem spoil_nil (S : Nat → Prop) (a : Option Addr) (cap : Nat) (clk rm : Int) (w : World) :
    Calls Tryz.prog 14 #[.agg #[.slice a 0 cap, .int .i64 clk, .int .i64 rm]] w fun r w' => r = .returned (.tuple #[]) ∧ Turn S w w' := by
  have hb0 : Below w.heap.size w (w.alloc (.cells #[.slice a 0 cap, .int .i64 clk, .int .i64 rm] 24)) := (Below.refl _ _).alloc (Nat.le_refl _) _
  go_enter Tryz.func14, Tryz.ntmps14
  go_wp2
  go_loopw [2, 3, 4] (fun i _ _ wr => i = .int .i64 0 ∧ wr = w.alloc (.cells #[.slice a 0 cap, .int .i64 clk, .int .i64 rm] 24)) (fun _ _ _ _ => 0)
  case atStart => exact ⟨rfl, rfl⟩
  case round =>
    obtain ⟨rfl, rfl⟩ := hrel
    go_wp2
    go_end0
    exact ⟨rfl, Turn.of_below hb0⟩
end Go.Proofs.YtpbfhbnkalambaaGreatDoor
namespace Go.Proofs.YtpbfhbnkalambaaGreatDoor
open Go.RowKit Go.Maps

structure BothAt (w : World) (lo : Nat) (Sf Sr : Nat → Prop) (A R : Nat) (v : Value) (ns : List Nv) (clk rm : Int) : Prop where
  fs : IsFs w Sf A (ns.map toE) clk rm
  rf : RGd w Sr R v ns clk rm
  dis : ∀ i, Sf i → Sr i → False
  hf : ∀ i, Sf i → lo ≤ i ∧ i < w.heap.size
  hr : ∀ i, Sr i → lo ≤ i ∧ i < w.heap.size
theorem RGd.apart {w w' : World} {S : Nat → Prop} {R : Nat} {v : Value} {ns : List Nv} {clk rm : Int} (h : RGd w S R v ns clk rm) (hk : ∀ b, S b → w'.heap[b]? = w.heap[b]?) : RGd w' S R v ns clk rm := ⟨h.at_.apart hk, h.gd, h.len, h.wt, h.rm1, h.c0, h.c1⟩
theorem BothAt.below {w w' : World} {lo : Nat} {Sf Sr : Nat → Prop} {A R : Nat} {v : Value} {ns : List Nv} {clk rm : Int} (h : BothAt w lo Sf Sr A R v ns clk rm) (hb : Below w.heap.size w w') : BothAt w' lo Sf Sr A R v ns clk rm :=
  ⟨h.fs.below hb, h.rf.below hb, h.dis, fun i hi => ⟨(h.hf i hi).1, Nat.lt_of_lt_of_le (h.hf i hi).2 hb.size⟩, fun i hi => ⟨(h.hr i hi).1, Nat.lt_of_lt_of_le (h.hr i hi).2 hb.size⟩⟩
/-- others' blocks alone have turned -/
theorem BothAt.turn {w w' : World} {lo : Nat} {S Sf Sr : Nat → Prop} {A R : Nat} {v : Value} {ns : List Nv} {clk rm : Int} (h : BothAt w lo Sf Sr A R v ns clk rm) (ht : Turn S w w') (hS : ∀ i, S i → ¬ Sf i ∧ ¬ Sr i) : BothAt w' lo Sf Sr A R v ns clk rm :=
  ⟨h.fs.apart ht.size fun b hb => ht.block b (h.hf b hb).2 fun hs => (hS b hs).1 hb, h.rf.apart fun b hb => ht.block b (h.hr b hb).2 fun hs => (hS b hs).2 hb, h.dis, fun i hi => ⟨(h.hf i hi).1, Nat.lt_of_lt_of_le (h.hf i hi).2 ht.size⟩, fun i hi => ⟨(h.hr i hi).1, Nat.lt_of_lt_of_le (h.hr i hi).2 ht.size⟩⟩
theorem BothAt.mid {w w1 : World} {lo : Nat} {Sf Sr : Nat → Prop} {A R : Nat} {v : Value} {ns : List Nv} {clk rm : Int} (h : BothAt w lo Sf Sr A R v ns clk rm) (ht : Turn Sf w w1) : RGd w1 Sr R v ns clk rm :=
  h.rf.apart fun b hb => ht.block b (h.hr b hb).2 fun hs => h.dis b hs hb
/-- behind a change of both -/
def ChAt (w : World) (lo : Nat) (Sf Sr : Nat → Prop) (A R : Nat) (clk rm : Int) (wc : World) : Prop :=
  ∃ Sf' Sr' v' ns' clk', BothAt wc lo Sf' Sr' A R v' ns' clk' rm ∧ Turn (fun i => Sf i ∨ Sr i) w wc ∧ (∀ i, Sf' i → Sf i ∨ w.heap.size ≤ i) ∧ (∀ i, Sr' i → Sr i ∨ w.heap.size ≤ i) ∧ clk' ≤ clk + 1
theorem both_step {w w1 w2 : World} {lo : Nat} {Sf Sr : Nat → Prop} {A R : Nat} {v : Value} {ns : List Nv} {clk rm : Int} {o : Out} (h : BothAt w lo Sf Sr A R v ns clk rm) (hlo : lo ≤ w.heap.size) (hc : clk + 1 ≤ 1099511627776000)
    (h1 : ∃ S', IsFs w1 S' A o.2.1 o.2.2 rm ∧ Turn Sf w w1 ∧ ∀ i, S' i → Sf i ∨ w.heap.size ≤ i)
    (h2 : ∃ v' ns' S', RfAt w2 S' R v' ns' o.2.2 rm ∧ ns'.map toE = o.2.1 ∧ Turn Sr w1 w2 ∧ ∀ i, S' i → Sr i ∨ w1.heap.size ≤ i) (hst : StepOk (ns.map toE) clk o) : ChAt w lo Sf Sr A R clk rm w2 := by
  obtain ⟨F, f1, f2, f3⟩ := h1
  obtain ⟨v', ns', G, g1, g2, g3, g4⟩ := h2
  have s1 := f2.size
  have s2 := g3.size
  have hF : ∀ i, F i ∧ i < w1.heap.size → (Sf i ∨ w.heap.size ≤ i) ∧ i < w1.heap.size := fun i hi => ⟨f3 i hi.1, hi.2⟩
  have hdis1 : ∀ i, F i ∧ i < w1.heap.size → ¬ Sr i := fun i hi hs => by
    rcases f3 i hi.1 with e | e
    · exact h.dis i e hs
    · have := (h.hr i hs).2; omega
  have f1s := f1.shrink
  have f12 : IsFs w2 (fun i => F i ∧ i < w1.heap.size) A o.2.1 o.2.2 rm := f1s.apart s2 fun b hb => g3.block b hb.2 (hdis1 b hb)
  refine ⟨fun i => F i ∧ i < w1.heap.size, fun i => G i ∧ i < w2.heap.size, v', ns', o.2.2, ⟨by rw [g2]; exact f12, ⟨g1.shrink, by rw [g2]; exact hst.gd, ?_, by rw [g2]; exact f12.wt, f12.rm, f12.clk0, ?_⟩, fun i hi hs => ?_, fun i hi => ?_, fun i hi => ?_⟩, ?_, fun i hi => f3 i hi.1, fun i hi => ?_, hst.hi⟩
  · have := f12.len
    rw [← g2, List.length_map] at this
    exact this
  · have := hst.hi; omega
  · rcases g4 i hs.1 with e | e
    · exact hdis1 i hi e
    · have := hi.2; omega
  · refine ⟨?_, Nat.lt_of_lt_of_le hi.2 s2⟩
    rcases f3 i hi.1 with e | e
    · exact (h.hf i e).1
    · omega
  · refine ⟨?_, hi.2⟩
    rcases g4 i hi.1 with e | e
    · exact (h.hr i e).1
    · omega
  · exact (f2.mono fun i hi => .inl hi).trans (g3.mono (S' := fun i => Sf i ∨ Sr i) fun i hi => .inr hi) fun i hi => .inl hi
  · rcases g4 i hi.1 with e | e
    · exact .inl e
    · exact .inr (by omega)
/-- nothing is changed -/
theorem both_same {w : World} {lo : Nat} {Sf Sr : Nat → Prop} {A R : Nat} {v : Value} {ns : List Nv} {clk rm : Int} (h : BothAt w lo Sf Sr A R v ns clk rm) : ChAt w lo Sf Sr A R clk rm w :=
  ⟨Sf, Sr, v, ns, clk, h, Turn.refl _ _, fun i hi => .inl hi, fun i hi => .inl hi, by omega⟩
end Go.Proofs.YtpbfhbnkalambaaGreatDoor
