/- A command that is stored, and read, whole; alone. -/
import Derived.Test.YtcemlhfodpelaaaGreatDoorGc
import Derived.Deep.Cut
import Derived.Deep.CutBlock
namespace Go.Proofs.YtcemlhfodpelaaaGreatDoor
open Go.RowKit

abbrev zeroC : Array Value := #[.int .i64 0, .bool false, .slice none 0 0, .slice none 0 0, .slice none 0 0, .slice none 0 0, .slice none 0 0]
abbrev set7 (w : World) (b : Nat) (v0 v1 v2 v3 v4 v5 v6 : Value) : World := ((((((w.setCell ⟨b, 0, none⟩ v0).setCell ⟨b, 1, none⟩ v1).setCell ⟨b, 2, none⟩ v2).setCell ⟨b, 3, none⟩ v3).setCell ⟨b, 4, none⟩ v4).setCell ⟨b, 5, none⟩ v5).setCell ⟨b, 6, none⟩ v6
theorem set7_blk {w : World} {b : Nat} {u0 u1 u2 u3 u4 u5 u6 : Value} (h : w.heap[b]? = some (.cells #[u0, u1, u2, u3, u4, u5, u6] 28 (0, 0))) (v0 v1 v2 v3 v4 v5 v6 : Value) : (set7 w b v0 v1 v2 v3 v4 v5 v6).heap[b]? = some (.cells #[v0, v1, v2, v3, v4, v5, v6] 28 (0, 0)) := by
  unfold set7
  have h0 : (w.setCell ⟨b, 0, none⟩ v0).heap[b]? = some (.cells #[v0, u1, u2, u3, u4, u5, u6] 28 (0, 0)) := set_block h 0 v0
  generalize w.setCell ⟨b, 0, none⟩ v0 = w0 at *
  have h1 : (w0.setCell ⟨b, 1, none⟩ v1).heap[b]? = some (.cells #[v0, v1, u2, u3, u4, u5, u6] 28 (0, 0)) := set_block h0 1 v1
  generalize w0.setCell ⟨b, 1, none⟩ v1 = w1 at *
  have h2 : (w1.setCell ⟨b, 2, none⟩ v2).heap[b]? = some (.cells #[v0, v1, v2, u3, u4, u5, u6] 28 (0, 0)) := set_block h1 2 v2
  generalize w1.setCell ⟨b, 2, none⟩ v2 = w2 at *
  have h3 : (w2.setCell ⟨b, 3, none⟩ v3).heap[b]? = some (.cells #[v0, v1, v2, v3, u4, u5, u6] 28 (0, 0)) := set_block h2 3 v3
  generalize w2.setCell ⟨b, 3, none⟩ v3 = w3 at *
  have h4 : (w3.setCell ⟨b, 4, none⟩ v4).heap[b]? = some (.cells #[v0, v1, v2, v3, v4, u5, u6] 28 (0, 0)) := set_block h3 4 v4
  generalize w3.setCell ⟨b, 4, none⟩ v4 = w4 at *
  have h5 : (w4.setCell ⟨b, 5, none⟩ v5).heap[b]? = some (.cells #[v0, v1, v2, v3, v4, v5, u6] 28 (0, 0)) := set_block h4 5 v5
  generalize w4.setCell ⟨b, 5, none⟩ v5 = w5 at *
  exact set_block h5 6 v6
theorem grown_set {w w' : World} {b : Nat} (h : w.grownBy w' (some b)) (j : Nat) (v : Value) : w.grownBy (w'.setCell ⟨b, j, none⟩ v) (some b) :=
  ⟨h.os, h.tape, h.output, Nat.le_trans h.size (Nat.le_of_eq (by simp)), fun k hk hn => (Below.heap_setCell w' ⟨b, j, none⟩ v k fun e => hn (by rw [e])).trans (h.block k hk hn)⟩
theorem set7_grown (w : World) (b : Nat) (v0 v1 v2 v3 v4 v5 v6 : Value) : w.grownBy (set7 w b v0 v1 v2 v3 v4 v5 v6) (some b) := by
  have h0 : w.grownBy w (some b) := ⟨rfl, rfl, rfl, Nat.le_refl _, fun _ _ _ => rfl⟩
  have h1 := grown_set h0 0 v0
  have h2 := grown_set h1 1 v1
  have h3 := grown_set h2 2 v2
  have h4 := grown_set h3 3 v3
  have h5 := grown_set h4 4 v4
  have h6 := grown_set h5 5 v5
  have h7 := grown_set h6 6 v6
  exact h7
/-- the seven cells of a block -/
theorem cells7 {w : World} {b : Nat} {v0 v1 v2 v3 v4 v5 v6 : Value} (h : w.heap[b]? = some (.cells #[v0, v1, v2, v3, v4, v5, v6] 28 (0, 0))) :
    w.cell? ⟨b, 0, none⟩ = some v0 ∧ w.cell? ⟨b, 1, none⟩ = some v1 ∧ w.cell? ⟨b, 2, none⟩ = some v2 ∧ w.cell? ⟨b, 3, none⟩ = some v3 ∧ w.cell? ⟨b, 4, none⟩ = some v4 ∧ w.cell? ⟨b, 5, none⟩ = some v5 ∧ w.cell? ⟨b, 6, none⟩ = some v6 := by
  refine ⟨?_, ?_, ?_, ?_, ?_, ?_, ?_⟩ <;> (rw [Lib.cell_of_heap h]; rfl)
theorem fz7 {w : World} {b : Nat} {cs : Array Value} {T : TypeId} (h : w.heap[b]? = some (.cells cs T (0, 0))) : w.frozen? ⟨b, 0, none⟩ = false ∧ w.frozen? ⟨b, 1, none⟩ = false ∧ w.frozen? ⟨b, 2, none⟩ = false ∧ w.frozen? ⟨b, 3, none⟩ = false ∧ w.frozen? ⟨b, 4, none⟩ = false ∧ w.frozen? ⟨b, 5, none⟩ = false ∧ w.frozen? ⟨b, 6, none⟩ = false := by
  refine ⟨?_, ?_, ?_, ?_, ?_, ?_, ?_⟩ <;> exact Lib.frozen_of_heap h _
/-- the one command of a row -/
theorem kid_one {w : World} {B : Nat} {kv : Value} {kc : List (List Value)} {c : Cd} (h : KidsAt w B kv kc [c]) : ∃ (g cap : Nat) (k : Nat) (nt : Bool) (a1 a2 a3 a4 a5 : Option Addr) (n1 n2 n3 n4 n5 c1 c2 c3 c4 c5 : Nat), kv = .slice (some ⟨g, 0, none⟩) 1 cap ∧ g < w.heap.size ∧ CdAt w (fun g => B ≤ g) [.int .i64 k, .bool nt, .slice a1 n1 c1, .slice a2 n2 c2, .slice a3 n3 c3, .slice a4 n4 c4, .slice a5 n5 c5] c ∧
    w.cell? ⟨g, 0, none⟩ = some (.int .i64 k) ∧ w.cell? ⟨g, 1, none⟩ = some (.bool nt) ∧ w.cell? ⟨g, 2, none⟩ = some (.slice a1 n1 c1) ∧ w.cell? ⟨g, 3, none⟩ = some (.slice a2 n2 c2) ∧ w.cell? ⟨g, 4, none⟩ = some (.slice a3 n3 c3) ∧ w.cell? ⟨g, 5, none⟩ = some (.slice a4 n4 c4) ∧ w.cell? ⟨g, 6, none⟩ = some (.slice a5 n5 c5) := by
  have hl : kc.length = 1 := h.len
  obtain ⟨cs, rfl⟩ : ∃ cs, kc = [cs] := List.length_eq_one_iff.1 hl
  have hc := h.kid 0 cs c rfl rfl
  obtain ⟨k, nt, a1, a2, a3, a4, a5, n1, n2, n3, n4, n5, c1, c2, c3, c4, c5, rfl⟩ := hc.form
  rcases h.row.2 with ⟨_, e⟩ | ⟨g, cap, cur, rfl, _, hg, _, _, _, ht, _⟩
  · cases e
  · refine ⟨g, cap, k, nt, a1, a2, a3, a4, a5, n1, n2, n3, n4, n5, c1, c2, c3, c4, c5, rfl, lt_of_block hg, hc.mono fun _ h3 _ => h3.1, ?_⟩
    have hcell : ∀ (j : Nat) u, ([.int .i64 k, .bool nt, .slice a1 n1 c1, .slice a2 n2 c2, .slice a3 n3 c3, .slice a4 n4 c4, .slice a5 n5 c5] : List Value)[j]? = some u → w.cell? ⟨g, j, none⟩ = some u := fun j u hj => by
      have hj7 : j < 7 := by have := (List.getElem?_eq_some_iff.1 hj).1; simpa using this
      rw [Lib.cell_of_heap hg]
      have h2 : (cur.toList.take 7)[j]? = some u := by
        have e : cur.toList.take 7 = _ := ht
        rw [e]
        simpa using hj
      rw [List.getElem?_take_of_lt hj7] at h2
      simpa using h2
    exact ⟨hcell 0 _ rfl, hcell 1 _ rfl, hcell 2 _ rfl, hcell 3 _ rfl, hcell 4 _ rfl, hcell 5 _ rfl, hcell 6 _ rfl⟩
/-- a command that is stored into the result's block, below all its parts -/
theorem ret_cmd {W : World} {b : Nat} {v0 v1 v2 v3 v4 v5 v6 : Value} {c : Cd} (hc : CdAt W (fun g => b + 1 ≤ g) [v0, v1, v2, v3, v4, v5, v6] c) : CdAt (set7 W b v0 v1 v2 v3 v4 v5 v6) (fun g => b ≤ g) [v0, v1, v2, v3, v4, v5, v6] c :=
  (hc.kept fun g hg hl => (set7_grown W b v0 v1 v2 v3 v4 v5 v6).block g hl fun e => by have := Option.some.inj e; omega).mono fun g hg _ => by omega
set_option maxHeartbeats 2000000 in
theorem alone_any (B : Nat) (l : List Cd) (w : World) (v : Value) (hv : ListV B w l v) : Calls Tryz.prog 81 #[v] w fun e w' => Below w.heap.size w w' ∧ ∃ v', e = .returned v' ∧ CmdV B w' (aloneP l) v' := by
  obtain ⟨kv, kc, rfl, hK⟩ := hv
  obtain ⟨W, hW⟩ : ∃ W, W = (w.alloc (.cells #[.int .i64 5, .bool false, .slice none 0 0, .slice none 0 0, .slice none 0 0, kv, .slice none 0 0] 28)).alloc (.cells zeroC 28) := ⟨_, rfl⟩
  have hb : Below w.heap.size w W := by rw [hW]; exact ((Below.refl _ _).alloc (Nat.le_refl _) _).alloc (by simp) _
  have hz : W.heap.size = w.heap.size + 2 := by rw [hW]; simp
  have z0 : W.heap[w.heap.size]? = some (.cells #[.int .i64 5, .bool false, .slice none 0 0, .slice none 0 0, .slice none 0 0, kv, .slice none 0 0] 28 (0, 0)) := by rw [hW]; exact (Lib.alloc_old _ _ _ (by simp)).trans (heap_alloc_new w _)
  have z1 : W.heap[w.heap.size + 1]? = some (.cells zeroC 28 (0, 0)) := by
    rw [hW]
    have := heap_alloc_new (w.alloc (.cells #[.int .i64 5, .bool false, .slice none 0 0, .slice none 0 0, .slice none 0 0, kv, .slice none 0 0] 28)) (.cells zeroC 28)
    simpa using this
  have hend : ∀ (v0 v1 v2 v3 v4 v5 v6 : Value), CdAt w (fun g => B ≤ g) [v0, v1, v2, v3, v4, v5, v6] (aloneP l) → ∀ W2, W2 = set7 W (w.heap.size + 1) v0 v1 v2 v3 v4 v5 v6 → Below w.heap.size w W2 ∧ CmdV B W2 (aloneP l) (.agg #[v0, v1, v2, v3, v4, v5, v6]) ∧ W2.heap[w.heap.size + 1]? = some (.cells #[v0, v1, v2, v3, v4, v5, v6] 28 (0, 0)) := fun v0 v1 v2 v3 v4 v5 v6 hc W2 hW2 => by
    have hg := set7_grown W (w.heap.size + 1) v0 v1 v2 v3 v4 v5 v6
    have hbk := set7_blk z1 v0 v1 v2 v3 v4 v5 v6
    rw [← hW2] at hg hbk
    have hb2 : Below w.heap.size w W2 := hb.trans ⟨hg.os, hg.tape, hg.output, hg.size, fun k hk => hg.block k (by omega) fun e => by have := Option.some.inj e; omega⟩
    exact ⟨hb2, ⟨_, rfl, hc.kept fun g _ hl => hb2.block g hl⟩, hbk⟩
  obtain ⟨o0, o1, o2, o3, o4, o5, o6⟩ := cells7 z0
  obtain ⟨r0, r1, r2, r3, r4, r5, r6⟩ := cells7 z1
  obtain ⟨f0, f1, f2, f3, f4, f5, f6⟩ := fz7 z1
  have hkw : ∀ g j, g < w.heap.size → W.cell? ⟨g, j, none⟩ = w.cell? ⟨g, j, none⟩ := fun g j hg => hb.cell (p := ⟨g, j, none⟩) hg
  have HW := hide' hW
  by_cases hl : ∃ c, l = [c]
  · obtain ⟨c, rfl⟩ := hl
    obtain ⟨g, cap, k, nt, a1, a2, a3, a4, a5, n1, n2, n3, n4, n5, c1, c2, c3, c4, c5, rfl, hg, hc, e0, e1, e2, e3, e4, e5, e6⟩ := kid_one hK
    rw [← hkw g _ hg] at e0 e1 e2 e3 e4 e5 e6
    have HE := hide' (hend _ _ _ _ _ _ _ hc)
    clear hend hK hb z0 z1 hkw hc hW
    go_enter Tryz.func81, Tryz.ntmps81
    go_upto_region 1 with fail
    rw [← HW.out]
    go_wp2
    obtain ⟨hb2, hV, hbk⟩ := HE.out _ rfl
    obtain ⟨d0, d1, d2, d3, d4, d5, d6⟩ := cells7 hbk
    refine bodyPost_ret (v := .agg #[.int .i64 k, .bool nt, .slice a1 n1 c1, .slice a2 n2 c2, .slice a3 n3 c3, .slice a4 n4 c4, .slice a5 n5 c5]) (by simp [results, Tryz.results81, go_sem, d0, d1, d2, d3, d4, d5, d6]) rfl ?_
    exact ⟨hb2, _, rfl, hV⟩
  · have hal : aloneP l = .mk 5 false [] [] [] l [] := by
      match l, hl with
      | [], _ => rfl
      | [c], h => exact absurd ⟨c, rfl⟩ h
      | a :: b :: r, _ => rfl
    have hc : CdAt w (fun g => B ≤ g) [.int .i64 5, .bool false, .slice none 0 0, .slice none 0 0, .slice none 0 0, kv, .slice none 0 0] (.mk 5 false [] [] [] l []) := hK.cmd 5 false
    rw [← hal] at hc
    obtain ⟨ka, kcap, rfl⟩ := hK.row.form
    have HE := hide' (hend _ _ _ _ _ _ _ hc)
    have hn1 : ¬ l.length = 1 := fun e => hl (by obtain ⟨c, rfl⟩ := List.length_eq_one_iff.1 e; exact ⟨c, rfl⟩)
    obtain ⟨n, hn⟩ : ∃ n, n = l.length := ⟨_, rfl⟩
    rw [← hn] at o5 hn1 HE HW
    have hn2 : ((n : Int) == 1) = false := beq_eq_false_iff_ne.2 (by omega)
    have hn3 : ¬ (n : Int) = 1 := by omega
    rw [← hn]
    clear hend hK hb z0 z1 hkw hc hW hal hl hn
    go_enter Tryz.func81, Tryz.ntmps81
    go_upto_region 1 with fail
    rw [← HW.out]
    go_wp2
    obtain ⟨hb2, hV, hbk⟩ := HE.out _ rfl
    obtain ⟨d0, d1, d2, d3, d4, d5, d6⟩ := cells7 hbk
    refine bodyPost_ret (v := .agg #[.int .i64 5, .bool false, .slice none 0 0, .slice none 0 0, .slice none 0 0, .slice ka n kcap, .slice none 0 0]) (by simp [results, Tryz.results81, go_sem, d0, d1, d2, d3, d4, d5, d6]) rfl ?_
    exact ⟨hb2, _, rfl, hV⟩
end Go.Proofs.YtcemlhfodpelaaaGreatDoor
