/- newParser. number; script; the catcher of a parser that gave up. -/
import Derived.Test.YtcemlhfodpelaaaGreatDoorGf
import Derived.ChangeMaps5
import Derived.MapKept
import Derived.Test.YtcemlhfodpelaaaGreatDoorGer
import Derived.Test.YtcemlhfodpelaaaGreatDoorRec
namespace Go.Proofs.YtcemlhfodpelaaaGreatDoor
open Go.RowKit

/-- a key more in the map of the forms -/
theorem ins {W : World} {M c : Nat} {es : Array MapEntry} (h : W.heap[M]? = some (.map es c)) (k : ByteArray) (v : Value) (hf : Instr.findNow .string (.string k) es.toList 0 = some none) :
    ∃ W', (Instr.mapUpdate 71 (.map (some M)) (.string k) v).run Tryz.prog W = .ok () W' ∧ W'.heap[M]? = some (.map (es.push ⟨.string k, v, c⟩) (c + 1)) ∧ W.grownBy W' (some M) := by
  have hlt : M < W.heap.size := by
    rcases Nat.lt_or_ge M W.heap.size with h1 | h1
    · exact h1
    · rw [Array.getElem?_eq_none h1] at h; cases h
  have hg : (getObj M).run Tryz.prog W = .ok (.map es c) W := by simp [getObj, Sem.run, h]
  have hck : (Instr.checkKey false 10000 9 (.string k)).run Tryz.prog W = .ok () W := by
    unfold Instr.checkKey
    simp [Sem.run_bind, run_underlying Tryz.underlying9]
  have hfk : (Instr.findKey 9 (.string k) es.toList).run Tryz.prog W = .ok none W := by
    unfold Instr.findKey
    simp [Sem.run_bind, run_underlying Tryz.underlying9, hf]
  refine ⟨{ W with heap := W.heap.setIfInBounds M (.map (es.push ⟨.string k, v, c⟩) (c + 1)) }, ?_, ?_, ⟨rfl, rfl, rfl, by simp, fun b _ hn => ?_⟩⟩
  · unfold Instr.mapUpdate
    simp only [Sem.run_bind, run_underlying Tryz.underlying71, Result.andThen_ok, hg, hck, hfk]
    simp [setObj, Sem.run, h]
  · simp [hlt]
  · have hne : M ≠ b := fun e => hn (by rw [e])
    simp [Array.getElem?_setIfInBounds_ne hne]
theorem grown_trans {a b c : World} {r : Option Nat} (h : a.grownBy b r) (k : b.grownBy c r) : a.grownBy c r :=
  ⟨k.os.trans h.os, k.tape.trans h.tape, k.output.trans h.output, Nat.le_trans h.size k.size, fun i hi hn => (k.block i (Nat.lt_of_lt_of_le hi h.size) hn).trans (h.block i hi hn)⟩
set_option maxRecDepth 100000 in
set_option maxHeartbeats 4000000 in
theorem newParser_any (w : World) (g cap : Nat) (tk : List Tok) (hr : w.ownsRow 0 60 2 (.slice (some ⟨g, 0, none⟩) tk.length cap) tk.length (flat tk)) (hg : Good tk) (hl : tk.length ≤ 5000) (hG : ∃ cs m, w.heap[1]? = some (.cells cs 3 (0, 0)) ∧ cs[0]? = some (.int .i64 m)) :
    Calls Tryz.prog 18 #[.slice (some ⟨g, 0, none⟩) tk.length cap] w fun e w' => e = .returned (ptr w.heap.size) ∧ Below w.heap.size w w' ∧ PsAt w' ⟨w.heap.size, w.heap.size + 1, g, cap, tk⟩ ⟨tk, 0, 0⟩ := by
  obtain ⟨A, hA⟩ : ∃ A, A = w.heap.size := ⟨_, rfl⟩
  have hmm : ∀ W, (Instr.makeMap 71 none).run Tryz.prog W = .ok (.map (some W.heap.size)) (W.alloc (.map #[] 0)) := fun W => rfl
  have hb0 : Below w.heap.size w ((w.alloc (.cells #[.slice (some ⟨g, 0, none⟩) tk.length cap, .int .i64 0, .map none, .int .i64 0, .int .i64 0] 73)).alloc (.map #[] 0)) := ((Below.refl _ _).alloc (Nat.le_refl _) _).alloc (by simp) _
  have z0 : ((w.alloc (.cells #[.slice (some ⟨g, 0, none⟩) tk.length cap, .int .i64 0, .map none, .int .i64 0, .int .i64 0] 73)).alloc (.map #[] 0)).heap[w.heap.size]? = some (.cells #[.slice (some ⟨g, 0, none⟩) tk.length cap, .int .i64 0, .map none, .int .i64 0, .int .i64 0] 73 (0, 0)) := (Lib.alloc_old _ _ _ (by simp)).trans (heap_alloc_new w _)
  have m0 : ((w.alloc (.cells #[.slice (some ⟨g, 0, none⟩) tk.length cap, .int .i64 0, .map none, .int .i64 0, .int .i64 0] 73)).alloc (.map #[] 0)).heap[w.heap.size + 1]? = some (.map #[] 0) := by
    have := heap_alloc_new (w.alloc (.cells #[.slice (some ⟨g, 0, none⟩) tk.length cap, .int .i64 0, .map none, .int .i64 0, .int .i64 0] 73)) (.map #[] 0)
    simpa using this
  obtain ⟨w1, hr1, m1, g1⟩ := ins m0 ⟨#[40]⟩ (formV w.heap.size 30) (by rfl)
  obtain ⟨w2, hr2, m2, g2⟩ := ins m1 ⟨#[123]⟩ (formV w.heap.size 31) (by rfl)
  obtain ⟨w3, hr3, m3, g3⟩ := ins m2 ⟨#[105, 102]⟩ (formV w.heap.size 32) (by rfl)
  obtain ⟨w4, hr4, m4, g4⟩ := ins m3 ⟨#[119, 104, 105, 108, 101]⟩ (formV w.heap.size 33) (by rfl)
  obtain ⟨w5, hr5, m5, g5⟩ := ins m4 ⟨#[117, 110, 116, 105, 108]⟩ (formV w.heap.size 34) (by rfl)
  obtain ⟨w6, hr6, m6, g6⟩ := ins m5 ⟨#[102, 111, 114]⟩ (formV w.heap.size 35) (by rfl)
  obtain ⟨w7, hr7, m7, g7⟩ := ins m6 ⟨#[99, 97, 115, 101]⟩ (formV w.heap.size 36) (by rfl)
  have gall := grown_trans g1 (grown_trans g2 (grown_trans g3 (grown_trans g4 (grown_trans g5 (grown_trans g6 g7)))))
  have hA7 : w7.heap[w.heap.size]? = some (.cells #[.slice (some ⟨g, 0, none⟩) tk.length cap, .int .i64 0, .map none, .int .i64 0, .int .i64 0] 73 (0, 0)) := (gall.block _ (lt_of_block z0) (by simp)).trans z0
  have hb7 : Below w.heap.size w w7 := hb0.trans ⟨gall.os, gall.tape, gall.output, gall.size, fun b hb => gall.block b (Nat.lt_of_lt_of_le hb hb0.size) fun e => by have := Option.some.inj e; omega⟩
  have hA8 : (w7.setCell ⟨w.heap.size, 2, none⟩ (.map (some (w.heap.size + 1)))).heap[w.heap.size]? = some (.cells #[.slice (some ⟨g, 0, none⟩) tk.length cap, .int .i64 0, .map (some (w.heap.size + 1)), .int .i64 0, .int .i64 0] 73 (0, 0)) := set_block hA7 2 _
  have hM8 : (w7.setCell ⟨w.heap.size, 2, none⟩ (.map (some (w.heap.size + 1)))).heap[w.heap.size + 1]? = some (.map (formsA w.heap.size) 7) := (set_oth (by omega)).trans m7
  have hb8 : Below w.heap.size w (w7.setCell ⟨w.heap.size, 2, none⟩ (.map (some (w.heap.size + 1)))) := hb7.setCell (p := ⟨w.heap.size, 2, none⟩) (Nat.le_refl _) _
  have hP : PsAt (w7.setCell ⟨w.heap.size, 2, none⟩ (.map (some (w.heap.size + 1)))) ⟨w.heap.size, w.heap.size + 1, g, cap, tk⟩ ⟨tk, 0, 0⟩ := by
    obtain ⟨cs, m, h1, h2⟩ := hG
    rcases hr.2 with ⟨e, _⟩ | ⟨g', cap', cur, e, _, hc, _, _, _, ht⟩
    · cases e
    · cases e
      exact ⟨0, hA8, hM8, ⟨cur, (hb8.block _ (lt_of_block hc)).trans hc, ht⟩, rfl, hg, hl, Nat.le_refl _, Nat.zero_le _, ⟨cs, m, (hb8.block _ (lt_of_block h1)).trans h1, h2⟩⟩
  have c2 : w7.cell? ⟨w.heap.size, 2, none⟩ = some (.map none) := by rw [Lib.cell_of_heap hA7]; rfl
  have f2 := Lib.frozen_of_heap hA7 2
  have HE := hide' (And.intro hb8 hP)
  clear hP hb8 hM8 hA8 hb7 hA7 gall g1 g2 g3 g4 g5 g6 g7 m0 m1 m2 m3 m4 m5 m6 m7 z0 hb0 hr hg hl hG hA
  go_enter Tryz.func18, Tryz.ntmps18
  go_wp2
  go_ret
  exact ⟨rfl, HE.out⟩
end Go.Proofs.YtcemlhfodpelaaaGreatDoor
namespace Go.Proofs.YtcemlhfodpelaaaGreatDoor
open Go.RowKit

/-- the variable of package errors -/
def EtW (w : World) : Prop := w.cell? ⟨0, 0, none⟩ = some (.iface 121 (.agg #[.pointer (some ⟨4, 48, none⟩)]))
set_option maxHeartbeats 2000000 in
theorem number_any (b : Nat) (n : Int) (w : World) (hE : EtW w) (h1 : w.cell? ⟨b, 1, none⟩ = some (.iface 29 (.int .i64 n))) :
    Calls Tryz.prog 17 #[.iface 107 (.pointer (some ⟨b, 0, none⟩))] w fun r w' => r = .returned (.int .i64 n) ∧ Below w.heap.size w w' := by
  have hb : Below w.heap.size w (w.alloc (.cells #[.int .i64 0] 29)) := (Below.refl _ _).alloc (Nat.le_refl _) _
  have hlt : 0 < w.heap.size := lt_of_cell? hE
  have hbl : b < w.heap.size := lt_of_cell? h1
  have q2 := as_fault b n ⟨w.heap.size, 0, none⟩ (.int .i64 0) (w.alloc (.cells #[.int .i64 0] 29)) ((hb.cell (p := ⟨0, 0, none⟩) hlt).trans hE) ((hb.cell (p := ⟨b, 1, none⟩) hbl).trans h1) (by simp) (by simp)
  generalize hX : (((((w.alloc (.cells #[.int .i64 0] 29)).alloc (.cells #[.pointer (some ⟨w.heap.size, 0, none⟩)] 70)).alloc (.cells #[.pointer (some ⟨4, 70, none⟩), .pointer (some ⟨(w.alloc (.cells #[.int .i64 0] 29)).heap.size, 0, none⟩), .int .u64 150] 96)).alloc (.cells #[.pointer (some ⟨4, 70, none⟩), .pointer (some ⟨(w.alloc (.cells #[.int .i64 0] 29)).heap.size, 0, none⟩), .int .u64 150] 96)).alloc (.cells #[.int .i64 n] 29)).setCell ⟨w.heap.size, 0, none⟩ (.int .i64 n) = X at q2
  have cx : X.cell? ⟨w.heap.size, 0, none⟩ = some (.int .i64 n) := by
    rw [← hX]
    refine World.cell?_setCell_same' _ _ _ ?_
    rw [World.cell?_alloc_lt _ _ ⟨w.heap.size, 0, none⟩ (by simp; omega), World.cell?_alloc_lt _ _ ⟨w.heap.size, 0, none⟩ (by simp; omega), World.cell?_alloc_lt _ _ ⟨w.heap.size, 0, none⟩ (by simp; omega), World.cell?_alloc_lt _ _ ⟨w.heap.size, 0, none⟩ (by simp)]
    simp
  have hbX : Below w.heap.size w X := by
    rw [← hX]
    exact (((((hb.alloc (by simp) _).alloc (by simp; omega) _).alloc (by simp; omega) _).alloc (by simp; omega) _).setCell (p := ⟨w.heap.size, 0, none⟩) (Nat.le_refl _) _)
  clear hX
  go_enter Tryz.func17, Tryz.ntmps17
  go_wp2_with fail
  refine q2.mono ?_
  rintro r w2 ⟨rfl, rfl⟩
  go_wp2
  go_ret
  exact ⟨rfl, hbX⟩
end Go.Proofs.YtcemlhfodpelaaaGreatDoor
