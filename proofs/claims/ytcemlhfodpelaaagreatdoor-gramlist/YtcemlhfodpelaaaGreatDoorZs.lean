/- The contracts of the reference's texts and Same, and of the law's same: of two of one. The contract of the reference's Same, of two of one. The contracts of the reference's Same, of the law's same and ends. -/
import Derived.Test.YtcemlhfodpelaaaGreatDoorGa
import Derived.Lib.QuietBelow
import Derived.Deep.QuietTactic
import Derived.BigQuiet
namespace Go.Proofs.YtcemlhfodpelaaaGreatDoor
open Go.RowKit

/-- the cells of a row that is not empty -/
theorem row_cells {w : World} {S : Nat → Prop} {T sz n : Nat} {v : Value} {xs : List Value} (h : RowS w S T sz v n xs) (hn : 0 < n) : ∃ g cap, v = .slice (some ⟨g, 0, none⟩) n cap ∧ n ≤ cap ∧ cap ≤ maxLen ∧ g < w.heap.size ∧ S g ∧ ∀ (j : Nat) u, xs[j]? = some u → w.cell? ⟨g, j, none⟩ = some u := by
  rcases h.2 with ⟨_, e⟩ | ⟨g, cap, cur, rfl, hS, hg, h1, h2, _, ht, _⟩
  · omega
  · refine ⟨g, cap, rfl, h1, h2, lt_of_block hg, hS, fun j u hj => ?_⟩
    rw [Lib.cell_of_heap hg]
    rw [← ht] at hj
    have hj' := (List.getElem?_eq_some_iff.1 hj).1
    rw [List.length_take] at hj'
    rw [List.getElem?_take_of_lt (by omega)] at hj
    simpa using hj
theorem below_dn {w : World} (n : Nat) : Below w.heap.size w (w.drewN n) := by
  unfold World.drewN
  exact ⟨rfl, rfl, rfl, Nat.le_refl _, fun _ _ => rfl⟩
set_option maxRecDepth 100000 in
set_option maxHeartbeats 2000000 in
theorem texts_row (g g' cap cap' : Nat) (l : List Bs) (w : World) (hl : l.length ≤ 9223372036854775807) (h : ∀ (j : Nat) x, l[j]? = some x → w.cell? ⟨g, j, none⟩ = some (.string (mk x))) (h' : ∀ (j : Nat) x, l[j]? = some x → w.cell? ⟨g', j, none⟩ = some (.string (mk x))) (hg : g < w.heap.size) (hg' : g' < w.heap.size) (_hc : l.length ≤ cap) (_hc' : l.length ≤ cap') :
    Calls Tryz.prog 25 #[.slice (some ⟨g, 0, none⟩) l.length cap, .slice (some ⟨g', 0, none⟩) l.length cap'] w fun r w' => r = .returned (.bool true) ∧ Below w.heap.size w w' := by
  go_enter Tryz.func25, Tryz.ntmps25
  go_wp2
  go_loopw [5] (fun i wr => ∃ k : Nat, k ≤ l.length ∧ i = .int .i64 k ∧ Below w.heap.size w wr) (fun i _ => l.length - (intOf i).toNat)
  case atStart => exact ⟨0, by omega, rfl, Below.refl _ _⟩
  case round =>
    obtain ⟨k, hk, rfl, hB⟩ := hrel
    by_cases hkl : k < l.length
    · obtain ⟨x, hx⟩ : ∃ x, l[k]? = some x := ⟨_, List.getElem?_eq_getElem hkl⟩
      have d := (hB.cell (p := ⟨g, k, none⟩) hg).trans (h k x hx)
      have d' := (hB.cell (p := ⟨g', k, none⟩) hg').trans (h' k x hx)
      have k2 : (k : Int) < l.length := by omega
      clear h h' hx
      have hBd : ∀ n, Below w.heap.size w (wr.drewN n) := fun n => hB.trans ((below_dn n).mono hB.size)
      go_wp2
      refine wp_region_quiet_lit (by kernel_rfl) (by kernel_rfl) ?_
      repeat (go_big_quiet_step (fail))
      refine wpQuiet_nil ?_
      intro _ hw'
      obtain ⟨nq, hw''⟩ := hw'
      subst hw''
      go_wp2
      exact ⟨⟨k + 1, by omega, by simp, hBd _⟩, by simp [intOf]; omega⟩
    · obtain rfl : k = l.length := by omega
      go_wp2
      go_ret
      exact ⟨rfl, hB⟩
theorem texts_nil (a a' : Option Addr) (cap cap' : Nat) (w : World) :
    Calls Tryz.prog 25 #[.slice a 0 cap, .slice a' 0 cap'] w fun r w' => r = .returned (.bool true) ∧ Below w.heap.size w w' := by
  go_enter Tryz.func25, Tryz.ntmps25
  go_wp2
  go_loopw [5] (fun i wr => i = .int .i64 0 ∧ wr = w) (fun _ _ => 0)
  case atStart => exact ⟨rfl, rfl⟩
  case round =>
    obtain ⟨rfl, rfl⟩ := hrel
    go_wp2
    go_ret
    exact ⟨rfl, Below.refl _ _⟩
theorem str_cells {w : World} {g : Nat} {l : List Bs} (h : ∀ (j : Nat) u, (l.map fun x => Value.string (mk x))[j]? = some u → w.cell? ⟨g, j, none⟩ = some u) : ∀ (j : Nat) x, l[j]? = some x → w.cell? ⟨g, j, none⟩ = some (.string (mk x)) := fun j x hx => h j _ (by rw [List.getElem?_map, hx]; rfl)
/-- texts, of two rows of the same texts -/
theorem texts_any {w : World} {S S' : Nat → Prop} {v v' : Value} {l : List Bs} (h : StrsS w S v l) (h' : StrsS w S' v' l) : Calls Tryz.prog 25 #[v, v'] w fun r w' => r = .returned (.bool true) ∧ Below w.heap.size w w' := by
  by_cases hl : l = []
  · subst hl
    rw [rows_none h, rows_none h']
    exact texts_nil _ _ _ _ _
  · have hn : 0 < l.length := List.length_pos_iff.2 hl
    obtain ⟨g, cap, rfl, c1, c2, c3, -, c4⟩ := row_cells h hn
    obtain ⟨g', cap', rfl, d1, d2, d3, -, d4⟩ := row_cells h' hn
    have hm : maxLen = 9223372036854775807 := by kernel_rfl
    exact texts_row g g' cap cap' l w (by omega) (str_cells c4) (str_cells d4) c3 d3 c1 d1
theorem getElem_flatten7 : ∀ {kc : List (List Value)} {i j : Nat} {cs : List Value} {u : Value}, (∀ c ∈ kc, c.length = 7) → kc[i]? = some cs → cs[j]? = some u → kc.flatten[i * 7 + j]? = some u
  | [], i, j, cs, u, _, h, _ => by simp at h
  | c :: r, 0, j, cs, u, _, h, hj => by
    have h : c = cs := by simpa using h
    subst h
    rw [List.flatten_cons, List.getElem?_append_left (by have := (List.getElem?_eq_some_iff.1 hj).1; omega)]
    simpa using hj
  | c :: r, i + 1, j, cs, u, hl, h, hj => by
    have hc := hl c (List.mem_cons_self ..)
    rw [List.flatten_cons, List.getElem?_append_right (by rw [hc]; omega), hc, show (i + 1) * 7 + j - 7 = i * 7 + j by omega]
    exact getElem_flatten7 (fun c h => hl c (List.mem_cons_of_mem _ h)) (by simpa using h) hj
theorem getElem_flat8 : ∀ {ac : List (Value × List Value)} {i j : Nat} {a : Value × List Value} {u : Value}, (∀ c ∈ ac, c.2.length = 7) → ac[i]? = some a → (armC a)[j]? = some u → (ac.flatMap armC)[i * 8 + j]? = some u
  | [], i, j, cs, u, _, h, _ => by simp at h
  | c :: r, 0, j, cs, u, _, h, hj => by
    have h : c = cs := by simpa using h
    subst h
    rw [List.flatMap_cons, List.getElem?_append_left (by have := (List.getElem?_eq_some_iff.1 hj).1; omega)]
    simpa using hj
  | c :: r, i + 1, j, cs, u, hl, h, hj => by
    have hc : (armC c).length = 8 := by simp [armC, hl c (List.mem_cons_self ..)]
    rw [List.flatMap_cons, List.getElem?_append_right (by rw [hc]; omega), hc, show (i + 1) * 8 + j - 8 = i * 8 + j by omega]
    exact getElem_flat8 (fun c h => hl c (List.mem_cons_of_mem _ h)) (by simpa using h) hj
theorem getElem_red : ∀ {l : List (Bs × Bs)} {i : Nat} {r : Bs × Bs}, l[i]? = some r → (l.flatMap redC)[i * 2]? = some (.string (mk r.1)) ∧ (l.flatMap redC)[i * 2 + 1]? = some (.string (mk r.2))
  | [], i, _, h => by simp at h
  | c :: l, 0, r, h => by
    have h : c = r := by simpa using h
    subst h
    exact ⟨rfl, rfl⟩
  | c :: l, i + 1, r, h => by
    have := getElem_red (l := l) (i := i) (r := r) (by simpa using h)
    rw [List.flatMap_cons]
    have hc : (redC c).length = 2 := rfl
    rw [List.getElem?_append_right (by omega), List.getElem?_append_right (by omega), hc, show (i + 1) * 2 - 2 = i * 2 by omega, show (i + 1) * 2 + 1 - 2 = i * 2 + 1 by omega]
    exact this
/-- the two boxes of Same's parameters -/
structure Bx2 (w : World) (b : Nat) (u v : List Value) : Prop where
  a : w.heap[b]? = some (.cells u.toArray 28 (0, 0))
  c : w.heap[b + 1]? = some (.cells v.toArray 28 (0, 0))
theorem Bx2.below {w w' : World} {b : Nat} {u v : List Value} (h : Bx2 w b u v) (hb : Below w.heap.size w w') : Bx2 w' b u v := ⟨(hb.block _ (lt_of_block h.a)).trans h.a, (hb.block _ (lt_of_block h.c)).trans h.c⟩
theorem bx2_laid (w : World) (u v : List Value) : ∃ W, W = (w.alloc (.cells u.toArray 28)).alloc (.cells v.toArray 28) ∧ Below w.heap.size w W ∧ W.heap.size = w.heap.size + 2 ∧ Bx2 W w.heap.size u v := by
  refine ⟨_, rfl, ((Below.refl _ _).alloc (Nat.le_refl _) _).alloc (by simp) _, by simp, (Lib.alloc_old _ _ _ (by simp)).trans (heap_alloc_new w _), ?_⟩
  have := heap_alloc_new (w.alloc (.cells u.toArray 28)) (.cells v.toArray 28)
  simpa using this
end Go.Proofs.YtcemlhfodpelaaaGreatDoor
namespace Go.Proofs.YtcemlhfodpelaaaGreatDoor
open Go.RowKit

/-- a call that answers true, and changes nothing that was there -/
abbrev Yes (f : Nat) (args : Array Value) (w : World) : Prop := Calls Tryz.prog f args w fun e w' => e = .returned (.bool true) ∧ Below w.heap.size w w'
/-- where Same is on its way -/
structure Iv (w1 wr : World) (u v : List Value) : Prop where
  b : Below w1.heap.size w1 wr
  x : Bx2 wr w1.heap.size u v
theorem Iv.step {w1 wr w' : World} {u v : List Value} (h : Iv w1 wr u v) (hb : Below wr.heap.size wr w') : Iv w1 w' u v := ⟨h.b.trans (hb.mono h.b.size), h.x.below hb⟩
theorem Iv.cells {w1 wr : World} {v0 v1 v2 v3 v4 v5 v6 u0 u1 u2 u3 u4 u5 u6 : Value} (h : Iv w1 wr [v0, v1, v2, v3, v4, v5, v6] [u0, u1, u2, u3, u4, u5, u6]) :
    (wr.cell? ⟨w1.heap.size, 0, none⟩ = some v0 ∧ wr.cell? ⟨w1.heap.size, 1, none⟩ = some v1 ∧ wr.cell? ⟨w1.heap.size, 2, none⟩ = some v2 ∧ wr.cell? ⟨w1.heap.size, 3, none⟩ = some v3 ∧ wr.cell? ⟨w1.heap.size, 4, none⟩ = some v4 ∧ wr.cell? ⟨w1.heap.size, 5, none⟩ = some v5 ∧ wr.cell? ⟨w1.heap.size, 6, none⟩ = some v6) ∧
      wr.cell? ⟨w1.heap.size + 1, 0, none⟩ = some u0 ∧ wr.cell? ⟨w1.heap.size + 1, 1, none⟩ = some u1 ∧ wr.cell? ⟨w1.heap.size + 1, 2, none⟩ = some u2 ∧ wr.cell? ⟨w1.heap.size + 1, 3, none⟩ = some u3 ∧ wr.cell? ⟨w1.heap.size + 1, 4, none⟩ = some u4 ∧ wr.cell? ⟨w1.heap.size + 1, 5, none⟩ = some u5 ∧ wr.cell? ⟨w1.heap.size + 1, 6, none⟩ = some u6 := ⟨cells7 h.x.a, cells7 h.x.c⟩
/-- two things of a row each: cells, in every world behind -/
def Cel (w : World) (n : Nat) (P : Nat → World → Prop) : Prop := ∀ k, k < n → ∀ w', Below w.heap.size w w' → P k w'
set_option maxRecDepth 100000 in
set_option maxHeartbeats 8000000 in
theorem same_body (k : Nat) (nt : Bool) (a1 a2 a3 a4 a5 b1 b2 b3 b4 b5 : Option Addr) (n1 n2 n3 n4 n5 c1 c2 c3 c4 c5 e1 e2 e3 e4 e5 : Nat) (w : World)
    (l3 : n3 ≤ 9223372036854775807) (l4 : n4 ≤ 9223372036854775807) (l5 : n5 ≤ 9223372036854775807)
    (q1 : ∀ w', Below w.heap.size w w' → Yes 25 #[.slice a1 n1 c1, .slice b1 n1 e1] w') (q2 : ∀ w', Below w.heap.size w w' → Yes 25 #[.slice a2 n2 c2, .slice b2 n2 e2] w')
    (q3 : 0 < n3 → ∃ g g', a3 = some ⟨g, 0, none⟩ ∧ b3 = some ⟨g', 0, none⟩ ∧ ∀ k, k < n3 → ∃ x y : Bs, ∀ w', Below w.heap.size w w' → w'.cell? ⟨g, k * 2, none⟩ = some (.string (mk x)) ∧ w'.cell? ⟨g, k * 2 + 1, none⟩ = some (.string (mk y)) ∧ w'.cell? ⟨g', k * 2, none⟩ = some (.string (mk x)) ∧ w'.cell? ⟨g', k * 2 + 1, none⟩ = some (.string (mk y)))
    (q4 : 0 < n4 → ∃ g g', a4 = some ⟨g, 0, none⟩ ∧ b4 = some ⟨g', 0, none⟩ ∧ ∀ k, k < n4 → ∃ v0 v1 v2 v3 v4 v5 v6 u0 u1 u2 u3 u4 u5 u6 : Value, ∀ w', Below w.heap.size w w' → (w'.cell? ⟨g, k * 7, none⟩ = some v0 ∧ w'.cell? ⟨g, k * 7 + 1, none⟩ = some v1 ∧ w'.cell? ⟨g, k * 7 + 2, none⟩ = some v2 ∧ w'.cell? ⟨g, k * 7 + 3, none⟩ = some v3 ∧ w'.cell? ⟨g, k * 7 + 4, none⟩ = some v4 ∧ w'.cell? ⟨g, k * 7 + 5, none⟩ = some v5 ∧ w'.cell? ⟨g, k * 7 + 6, none⟩ = some v6) ∧ (w'.cell? ⟨g', k * 7, none⟩ = some u0 ∧ w'.cell? ⟨g', k * 7 + 1, none⟩ = some u1 ∧ w'.cell? ⟨g', k * 7 + 2, none⟩ = some u2 ∧ w'.cell? ⟨g', k * 7 + 3, none⟩ = some u3 ∧ w'.cell? ⟨g', k * 7 + 4, none⟩ = some u4 ∧ w'.cell? ⟨g', k * 7 + 5, none⟩ = some u5 ∧ w'.cell? ⟨g', k * 7 + 6, none⟩ = some u6) ∧ Yes 12 #[.agg #[v0, v1, v2, v3, v4, v5, v6], .agg #[u0, u1, u2, u3, u4, u5, u6]] w')
    (q5 : 0 < n5 → ∃ g g', a5 = some ⟨g, 0, none⟩ ∧ b5 = some ⟨g', 0, none⟩ ∧ ∀ k, k < n5 → ∃ v v0 v1 v2 v3 v4 v5 v6 u u0 u1 u2 u3 u4 u5 u6 : Value, ∀ w', Below w.heap.size w w' → (w'.cell? ⟨g, k * 8, none⟩ = some v ∧ w'.cell? ⟨g, k * 8 + 1, none⟩ = some v0 ∧ w'.cell? ⟨g, k * 8 + 2, none⟩ = some v1 ∧ w'.cell? ⟨g, k * 8 + 3, none⟩ = some v2 ∧ w'.cell? ⟨g, k * 8 + 4, none⟩ = some v3 ∧ w'.cell? ⟨g, k * 8 + 5, none⟩ = some v4 ∧ w'.cell? ⟨g, k * 8 + 6, none⟩ = some v5 ∧ w'.cell? ⟨g, k * 8 + 7, none⟩ = some v6) ∧ (w'.cell? ⟨g', k * 8, none⟩ = some u ∧ w'.cell? ⟨g', k * 8 + 1, none⟩ = some u0 ∧ w'.cell? ⟨g', k * 8 + 2, none⟩ = some u1 ∧ w'.cell? ⟨g', k * 8 + 3, none⟩ = some u2 ∧ w'.cell? ⟨g', k * 8 + 4, none⟩ = some u3 ∧ w'.cell? ⟨g', k * 8 + 5, none⟩ = some u4 ∧ w'.cell? ⟨g', k * 8 + 6, none⟩ = some u5 ∧ w'.cell? ⟨g', k * 8 + 7, none⟩ = some u6) ∧ Yes 25 #[v, u] w' ∧ Yes 12 #[.agg #[v0, v1, v2, v3, v4, v5, v6], .agg #[u0, u1, u2, u3, u4, u5, u6]] w') :
    Yes 12 #[.agg #[.int .i64 k, .bool nt, .slice a1 n1 c1, .slice a2 n2 c2, .slice a3 n3 c3, .slice a4 n4 c4, .slice a5 n5 c5], .agg #[.int .i64 k, .bool nt, .slice b1 n1 e1, .slice b2 n2 e2, .slice b3 n3 e3, .slice b4 n4 e4, .slice b5 n5 e5]] w := by
  obtain ⟨W, hW, hbW, -, hX⟩ := bx2_laid w [.int .i64 k, .bool nt, .slice a1 n1 c1, .slice a2 n2 c2, .slice a3 n3 c3, .slice a4 n4 c4, .slice a5 n5 c5] [.int .i64 k, .bool nt, .slice b1 n1 e1, .slice b2 n2 e2, .slice b3 n3 e3, .slice b4 n4 e4, .slice b5 n5 e5]
  have hI : Iv w W _ _ := ⟨hbW, hX⟩
  clear hbW hX
  have HW := hide' hW
  clear hW
  have hn : (nt != nt) = false := by simp
  obtain ⟨⟨o0, o1, o2, o3, o4, o5, o6⟩, r0, r1, r2, r3, r4, r5, r6⟩ := hI.cells
  have q := q1 W hI.b
  have HI := hide' hI
  clear hI
  go_enter Tryz.func12, Tryz.ntmps12
  go_upto_region 1 with fail
  rw [← HW.out]
  go_wp2_with fail
  refine q.mono ?_
  rintro e w2 ⟨rfl, hb2⟩
  have hI := HI.out.step hb2
  clear hb2 HI HW o0 o1 o2 o3 o4 o5 o6 r0 r1 r2 r3 r4 r5 r6 q
  obtain ⟨⟨-, -, o2, o3, o4, o5, o6⟩, -, -, r2, r3, r4, r5, r6⟩ := hI.cells
  have q := q2 w2 hI.b
  have HI := hide' hI
  clear hI
  go_wp2_with fail
  refine q.mono ?_
  rintro e w3 ⟨rfl, hb3⟩
  have hI := HI.out.step hb3
  clear hb3 HI o2 o3 o4 o5 o6 r2 r3 r4 r5 r6 q
  have HI := hide' hI
  clear hI
  go_wp2_with fail
  go_loopw [7] (fun i wr => ∃ j : Nat, j ≤ n3 ∧ i = .int .i64 j ∧ Iv w wr [.int .i64 k, .bool nt, .slice a1 n1 c1, .slice a2 n2 c2, .slice a3 n3 c3, .slice a4 n4 c4, .slice a5 n5 c5] [.int .i64 k, .bool nt, .slice b1 n1 e1, .slice b2 n2 e2, .slice b3 n3 e3, .slice b4 n4 e4, .slice b5 n5 e5]) (fun i _ => n3 - (intOf i).toNat)
  case atStart => exact ⟨0, by omega, rfl, HI.out⟩
  case round =>
    obtain ⟨j, hj, rfl, hI⟩ := hrel
    clear HI
    obtain ⟨⟨-, -, -, -, o4, o5, o6⟩, -, -, -, -, r4, r5, r6⟩ := hI.cells
    by_cases hjl : j < n3
    · obtain ⟨g, g', rfl, rfl, hq⟩ := q3 (by omega)
      obtain ⟨x, y, hq⟩ := hq j hjl
      obtain ⟨d0, d1, d2, d3⟩ := hq wr hI.b
      have k2 : (j : Int) < n3 := by omega
      have HI := hide' hI
      clear hI q1 q2 q3 q4 q5 hq
      go_wp2
      refine wp_region_quiet_lit (by kernel_rfl) (by kernel_rfl) ?_
      repeat (go_big_quiet_step (fail))
      refine wpQuiet_nil ?_
      intro _ hw'
      obtain ⟨nq, hw''⟩ := hw'
      subst hw''
      go_wp2
      exact ⟨⟨j + 1, by omega, by simp, HI.out.step (below_dn _)⟩, by simp [intOf]; omega⟩
    · obtain rfl : n3 = j := by omega
      have HI := hide' hI
      clear hI q1 q2 q3
      go_wp2
      go_loopw [8] (fun i wr => ∃ j : Nat, j ≤ n4 ∧ i = .int .i64 j ∧ Iv w wr [.int .i64 k, .bool nt, .slice a1 n1 c1, .slice a2 n2 c2, .slice a3 n3 c3, .slice a4 n4 c4, .slice a5 n5 c5] [.int .i64 k, .bool nt, .slice b1 n1 e1, .slice b2 n2 e2, .slice b3 n3 e3, .slice b4 n4 e4, .slice b5 n5 e5]) (fun i _ => n4 - (intOf i).toNat)
      case atStart => exact ⟨0, by omega, rfl, HI.out⟩
      case round =>
        clear HI o4 o5 o6 r4 r5 r6
        obtain ⟨j, hj, rfl, hI⟩ := hrel
        obtain ⟨⟨-, -, -, -, -, o5, o6⟩, -, -, -, -, -, r5, r6⟩ := hI.cells
        by_cases hjl : j < n4
        · obtain ⟨g, g', rfl, rfl, hq⟩ := q4 (by omega)
          obtain ⟨v0, v1, v2, v3, v4, v5, v6, u0, u1, u2, u3, u4, u5, u6, hq⟩ := hq j hjl
          have hR := fun d os => hI.b.trans ((below_regrown wr d os).mono hI.b.size)
          have d0 := fun d os => (hq _ (hR d os)).1.1
          have d1 := fun d os => (hq _ (hR d os)).1.2.1
          have d2 := fun d os => (hq _ (hR d os)).1.2.2.1
          have d3 := fun d os => (hq _ (hR d os)).1.2.2.2.1
          have d4 := fun d os => (hq _ (hR d os)).1.2.2.2.2.1
          have d5 := fun d os => (hq _ (hR d os)).1.2.2.2.2.2.1
          have d6 := fun d os => (hq _ (hR d os)).1.2.2.2.2.2.2
          have f0 := fun d os => (hq _ (hR d os)).2.1.1
          have f1 := fun d os => (hq _ (hR d os)).2.1.2.1
          have f2 := fun d os => (hq _ (hR d os)).2.1.2.2.1
          have f3 := fun d os => (hq _ (hR d os)).2.1.2.2.2.1
          have f4 := fun d os => (hq _ (hR d os)).2.1.2.2.2.2.1
          have f5 := fun d os => (hq _ (hR d os)).2.1.2.2.2.2.2.1
          have f6 := fun d os => (hq _ (hR d os)).2.1.2.2.2.2.2.2
          have qk := fun d os => (hq _ (hR d os)).2.2
          have p5 := fun d os => cell_regrown o5 d os
          have s5 := fun d os => cell_regrown r5 d os
          have k2 : (j : Int) < n4 := by omega
          have HI := hide' hI
          clear hI q4 q5 hq hR
          go_wp2
          clear o5 o6 r5 r6
          refine wp_region_quiet_below (by kernel_rfl) (by kernel_rfl) ?_
          repeat (go_big_quiet_step ((go_at_call 12; exact Calls.regrown_of (qk _ _))))
          refine wpQuiet_nil ?_
          intro w2 hw2
          have hb2 : Below wr.heap.size wr w2 := by
            obtain ⟨p, rfl⟩ := hw2
            exact below_regrown _ _ _
          have HJ := hide' (HI.out.step hb2)
          clear hw2 hb2 d0 d1 d2 d3 d4 d5 d6 f0 f1 f2 f3 f4 f5 f6 qk p5 s5 HI
          go_wp2
          exact ⟨⟨j + 1, by omega, by simp, HJ.out⟩, by simp [intOf]; omega⟩
        · obtain rfl : n4 = j := by omega
          have HI := hide' hI
          clear hI q4
          go_wp2
          go_loopw [10] (fun i wr => ∃ j : Nat, j ≤ n5 ∧ i = .int .i64 j ∧ Iv w wr [.int .i64 k, .bool nt, .slice a1 n1 c1, .slice a2 n2 c2, .slice a3 n3 c3, .slice a4 n4 c4, .slice a5 n5 c5] [.int .i64 k, .bool nt, .slice b1 n1 e1, .slice b2 n2 e2, .slice b3 n3 e3, .slice b4 n4 e4, .slice b5 n5 e5]) (fun i _ => n5 - (intOf i).toNat)
          case atStart => exact ⟨0, by omega, rfl, HI.out⟩
          case round =>
            clear HI o5 o6 r5 r6
            obtain ⟨j, hj, rfl, hI⟩ := hrel
            obtain ⟨⟨-, -, -, -, -, -, o6⟩, -, -, -, -, -, -, r6⟩ := hI.cells
            by_cases hjl : j < n5
            · obtain ⟨g, g', rfl, rfl, hq⟩ := q5 (by omega)
              obtain ⟨vp, v0, v1, v2, v3, v4, v5, v6, up, u0, u1, u2, u3, u4, u5, u6, hq⟩ := hq j hjl
              have hR := fun d os => hI.b.trans ((below_regrown wr d os).mono hI.b.size)
              have d0 := fun d os => (hq _ (hR d os)).1.2.1
              have d1 := fun d os => (hq _ (hR d os)).1.2.2.1
              have d2 := fun d os => (hq _ (hR d os)).1.2.2.2.1
              have d3 := fun d os => (hq _ (hR d os)).1.2.2.2.2.1
              have d4 := fun d os => (hq _ (hR d os)).1.2.2.2.2.2.1
              have d5 := fun d os => (hq _ (hR d os)).1.2.2.2.2.2.2.1
              have d6 := fun d os => (hq _ (hR d os)).1.2.2.2.2.2.2.2
              have f0 := fun d os => (hq _ (hR d os)).2.1.2.1
              have f1 := fun d os => (hq _ (hR d os)).2.1.2.2.1
              have f2 := fun d os => (hq _ (hR d os)).2.1.2.2.2.1
              have f3 := fun d os => (hq _ (hR d os)).2.1.2.2.2.2.1
              have f4 := fun d os => (hq _ (hR d os)).2.1.2.2.2.2.2.1
              have f5 := fun d os => (hq _ (hR d os)).2.1.2.2.2.2.2.2.1
              have f6 := fun d os => (hq _ (hR d os)).2.1.2.2.2.2.2.2.2
              have qk := fun d os => (hq _ (hR d os)).2.2.2
              have p6 := fun d os => cell_regrown o6 d os
              have s6 := fun d os => cell_regrown r6 d os
              have k2 : (j : Int) < n5 := by omega
              have HI := hide' hI
              have HQ := hide' hq
              clear hI q5 hq hR
              go_wp2
              clear o6 r6
              refine wp_region_quiet_below (by kernel_rfl) (by kernel_rfl) ?_
              repeat (go_big_quiet_step ((go_at_call 12; exact Calls.regrown_of (qk _ _))))
              refine wpQuiet_nil ?_
              intro w2 hw2
              have hb2 : Below wr.heap.size wr w2 := by
                obtain ⟨p, rfl⟩ := hw2
                exact below_regrown _ _ _
              have hJ := HI.out.step hb2
              clear hw2 hb2 d0 d1 d2 d3 d4 d5 d6 f0 f1 f2 f3 f4 f5 f6 qk p6 s6 HI
              obtain ⟨⟨-, -, -, -, -, -, o6⟩, -, -, -, -, -, -, r6⟩ := hJ.cells
              have hR := fun d os => hJ.b.trans ((below_regrown w2 d os).mono hJ.b.size)
              have d0 := fun d os => (HQ.out _ (hR d os)).1.1
              have f0 := fun d os => (HQ.out _ (hR d os)).2.1.1
              have qk := fun d os => (HQ.out _ (hR d os)).2.2.1
              have p6 := fun d os => cell_regrown o6 d os
              have s6 := fun d os => cell_regrown r6 d os
              have HJ := hide' hJ
              clear hJ hR HQ
              go_wp2
              clear o6 r6
              refine wp_region_quiet_below (by kernel_rfl) (by kernel_rfl) ?_
              repeat (go_big_quiet_step ((go_at_call 25; exact Calls.regrown_of (qk _ _))))
              refine wpQuiet_nil ?_
              intro w3 hw3
              have hb3 : Below w2.heap.size w2 w3 := by
                obtain ⟨p, rfl⟩ := hw3
                exact below_regrown _ _ _
              have HK := hide' (HJ.out.step hb3)
              clear hw3 hb3 d0 f0 qk p6 s6 HJ
              go_wp2
              exact ⟨⟨j + 1, by omega, by simp, HK.out⟩, by simp [intOf]; omega⟩
            · obtain rfl : n5 = j := by omega
              have HI := hide' hI
              clear hI q5
              go_wp2
              go_ret
              exact ⟨rfl, HI.out.b⟩
end Go.Proofs.YtcemlhfodpelaaaGreatDoor
namespace Go.Proofs.YtcemlhfodpelaaaGreatDoor
open Go.RowKit

theorem max_is : maxLen = 9223372036854775807 := by kernel_rfl
theorem RowS.below {w w' : World} {S : Nat → Prop} {T sz n : Nat} {v : Value} {xs : List Value} (h : RowS w S T sz v n xs) (hb : Below w.heap.size w w') : RowS w' S T sz v n xs := h.kept fun g _ hl => hb.block g hl
theorem CdAt.low {w w' : World} {S : Nat → Prop} {cs : List Value} {c : Cd} (h : CdAt w S cs c) (hb : Below w.heap.size w w') : CdAt w' S cs c := h.kept fun g _ hl => hb.block g hl
theorem RowS.small {w : World} {S : Nat → Prop} {T sz n : Nat} {v : Value} {xs : List Value} (h : RowS w S T sz v n xs) : n ≤ 9223372036854775807 := by
  rcases h.2 with ⟨_, rfl⟩ | ⟨g, cap, cur, rfl, _, _, h1, h2, _⟩
  · omega
  · have := max_is
    omega
theorem same_cd {w : World} {S S' : Nat → Prop} {cs : List Value} {c : Cd} (h : CdAt w S cs c) : ∀ w1, Below w.heap.size w w1 → ∀ cs', CdAt w1 S' cs' c → Yes 12 #[.agg cs.toArray, .agg cs'.toArray] w1 := by
  induction h with
  | intro k nt ag ws rs ks ar av wv rv kv mv kc ac h1 h2 h3 h4 h5 h6 h7 h8 h9 h10 ih6 ih10 =>
    intro w1 hb1 cs' h'
    cases h' with
    | intro _ _ _ _ _ _ _ av' wv' rv' kv' mv' kc' ac' h1' h2' h3' h4' h5' h6' h7' h8' h9' h10' =>
      have h1 := h1.below hb1
      have h2 := h2.below hb1
      have h3 := h3.below hb1
      have h4 := h4.below hb1
      have h7 := h7.below hb1
      have g9 := fun i a b ha hb => (h9 i a b ha hb).below hb1
      have l7 : ∀ c ∈ kc, c.length = 7 := fun c hc => by
        obtain ⟨i, hi, rfl⟩ := List.mem_iff_getElem.1 hc
        exact (h6 i _ _ (List.getElem?_eq_getElem hi) (List.getElem?_eq_getElem (by omega))).len
      have l7' : ∀ c ∈ kc', c.length = 7 := fun c hc => by
        obtain ⟨i, hi, rfl⟩ := List.mem_iff_getElem.1 hc
        exact (h6' i _ _ (List.getElem?_eq_getElem hi) (List.getElem?_eq_getElem (by omega))).len
      have l8 : ∀ c ∈ ac, c.2.length = 7 := fun c hc => by
        obtain ⟨i, hi, rfl⟩ := List.mem_iff_getElem.1 hc
        exact (h10 i _ _ (List.getElem?_eq_getElem hi) (List.getElem?_eq_getElem (by omega))).len
      have l8' : ∀ c ∈ ac', c.2.length = 7 := fun c hc => by
        obtain ⟨i, hi, rfl⟩ := List.mem_iff_getElem.1 hc
        exact (h10' i _ _ (List.getElem?_eq_getElem hi) (List.getElem?_eq_getElem (by omega))).len
      obtain ⟨a1, c1, e1⟩ := h1.form
      obtain ⟨a2, c2, e2⟩ := h2.form
      obtain ⟨a3, c3, e3⟩ := h3.form
      obtain ⟨a4, c4, e4⟩ := h4.form
      obtain ⟨a5, c5, e5⟩ := h7.form
      obtain ⟨b1, d1, f1⟩ := h1'.form
      obtain ⟨b2, d2, f2⟩ := h2'.form
      obtain ⟨b3, d3, f3⟩ := h3'.form
      obtain ⟨b4, d4, f4⟩ := h4'.form
      obtain ⟨b5, d5, f5⟩ := h7'.form
      subst e1 e2 e3 e4 e5 f1 f2 f3 f4 f5
      refine same_body k nt a1 a2 a3 a4 a5 b1 b2 b3 b4 b5 _ _ _ _ _ c1 c2 c3 c4 c5 d1 d2 d3 d4 d5 w1 h3.small h4.small h7.small (fun w' hb => texts_any (h1.below hb) (h1'.below hb)) (fun w' hb => texts_any (h2.below hb) (h2'.below hb)) (fun hn => ?_) (fun hn => ?_) fun hn => ?_
      · obtain ⟨g, cap, hv, -, -, hg, -, hc⟩ := row_cells h3 hn
        obtain ⟨g', cap', hv', -, -, hg', -, hc'⟩ := row_cells h3' hn
        cases hv
        cases hv'
        refine ⟨g, g', rfl, rfl, fun j hj => ?_⟩
        have hr := getElem_red (List.getElem?_eq_getElem hj)
        exact ⟨_, _, fun w' hb => ⟨(hb.cell (p := ⟨g, _, none⟩) hg).trans (hc _ _ hr.1), (hb.cell (p := ⟨g, _, none⟩) hg).trans (hc _ _ hr.2), (hb.cell (p := ⟨g', _, none⟩) hg').trans (hc' _ _ hr.1), (hb.cell (p := ⟨g', _, none⟩) hg').trans (hc' _ _ hr.2)⟩⟩
      · obtain ⟨g, cap, hv, -, -, hg, -, hc⟩ := row_cells h4 hn
        obtain ⟨g', cap', hv', -, -, hg', -, hc'⟩ := row_cells h4' hn
        cases hv
        cases hv'
        refine ⟨g, g', rfl, rfl, fun j hj => ?_⟩
        obtain ⟨x, hx⟩ : ∃ x, kc[j]? = some x := ⟨_, List.getElem?_eq_getElem (by omega)⟩
        obtain ⟨x', hx'⟩ : ∃ x, kc'[j]? = some x := ⟨_, List.getElem?_eq_getElem (by omega)⟩
        have hk := List.getElem?_eq_getElem hj
        have hy := h6' j x' _ hx' hk
        have q := fun w' (hb : Below w1.heap.size w1 w') => ih6 j x _ hx hk w' (hb1.trans (hb.mono hb1.size)) x' (hy.low hb)
        have m : ∀ (i : Nat) u, x[i]? = some u → ∀ w', Below w1.heap.size w1 w' → w'.cell? ⟨g, j * 7 + i, none⟩ = some u := fun i u hu w' hb => (hb.cell (p := ⟨g, _, none⟩) hg).trans (hc _ _ (getElem_flatten7 l7 hx hu))
        have m' : ∀ (i : Nat) u, x'[i]? = some u → ∀ w', Below w1.heap.size w1 w' → w'.cell? ⟨g', j * 7 + i, none⟩ = some u := fun i u hu w' hb => (hb.cell (p := ⟨g', _, none⟩) hg').trans (hc' _ _ (getElem_flatten7 l7' hx' hu))
        obtain ⟨k1, t1, x1, x2, x3, x4, x5, m1, m2, m3, m4, m5, y1, y2, y3, y4, y5, rfl⟩ := (h6 j x _ hx hk).form
        obtain ⟨k1', t1', x1', x2', x3', x4', x5', m1', m2', m3', m4', m5', y1', y2', y3', y4', y5', rfl⟩ := hy.form
        exact ⟨_, _, _, _, _, _, _, _, _, _, _, _, _, _, fun w' hb => ⟨⟨m 0 _ rfl w' hb, m 1 _ rfl w' hb, m 2 _ rfl w' hb, m 3 _ rfl w' hb, m 4 _ rfl w' hb, m 5 _ rfl w' hb, m 6 _ rfl w' hb⟩, ⟨m' 0 _ rfl w' hb, m' 1 _ rfl w' hb, m' 2 _ rfl w' hb, m' 3 _ rfl w' hb, m' 4 _ rfl w' hb, m' 5 _ rfl w' hb, m' 6 _ rfl w' hb⟩, q w' hb⟩⟩
      · obtain ⟨g, cap, hv, -, -, hg, -, hc⟩ := row_cells h7 hn
        obtain ⟨g', cap', hv', -, -, hg', -, hc'⟩ := row_cells h7' hn
        cases hv
        cases hv'
        refine ⟨g, g', rfl, rfl, fun j hj => ?_⟩
        obtain ⟨x, hx⟩ : ∃ x, ac[j]? = some x := ⟨_, List.getElem?_eq_getElem (by omega)⟩
        obtain ⟨x', hx'⟩ : ∃ x, ac'[j]? = some x := ⟨_, List.getElem?_eq_getElem (by omega)⟩
        have hk := List.getElem?_eq_getElem hj
        have hy := h10' j x' _ hx' hk
        have q := fun w' (hb : Below w1.heap.size w1 w') => ih10 j x _ hx hk w' (hb1.trans (hb.mono hb1.size)) x'.2 (hy.low hb)
        have qt := fun w' (hb : Below w1.heap.size w1 w') => texts_any ((g9 j x _ hx hk).below hb) ((h9' j x' _ hx' hk).below hb)
        have m : ∀ (i : Nat) u, (armC x)[i]? = some u → ∀ w', Below w1.heap.size w1 w' → w'.cell? ⟨g, j * 8 + i, none⟩ = some u := fun i u hu w' hb => (hb.cell (p := ⟨g, _, none⟩) hg).trans (hc _ _ (getElem_flat8 l8 hx hu))
        have m' : ∀ (i : Nat) u, (armC x')[i]? = some u → ∀ w', Below w1.heap.size w1 w' → w'.cell? ⟨g', j * 8 + i, none⟩ = some u := fun i u hu w' hb => (hb.cell (p := ⟨g', _, none⟩) hg').trans (hc' _ _ (getElem_flat8 l8' hx' hu))
        obtain ⟨k1, t1, x1, x2, x3, x4, x5, m1, m2, m3, m4, m5, y1, y2, y3, y4, y5, ex⟩ := (h10 j x _ hx hk).form
        obtain ⟨k1', t1', x1', x2', x3', x4', x5', m1', m2', m3', m4', m5', y1', y2', y3', y4', y5', ex'⟩ := hy.form
        obtain ⟨p, x⟩ := x
        obtain ⟨p', x'⟩ := x'
        dsimp only at ex ex'
        subst ex ex'
        exact ⟨p, _, _, _, _, _, _, _, p', _, _, _, _, _, _, _, fun w' hb => ⟨⟨m 0 _ rfl w' hb, m 1 _ rfl w' hb, m 2 _ rfl w' hb, m 3 _ rfl w' hb, m 4 _ rfl w' hb, m 5 _ rfl w' hb, m 6 _ rfl w' hb, m 7 _ rfl w' hb⟩, ⟨m' 0 _ rfl w' hb, m' 1 _ rfl w' hb, m' 2 _ rfl w' hb, m' 3 _ rfl w' hb, m' 4 _ rfl w' hb, m' 5 _ rfl w' hb, m' 6 _ rfl w' hb, m' 7 _ rfl w' hb⟩, qt w' hb, q w' hb⟩⟩
/-- Same, of two of one -/
theorem same_any {w : World} {S S' : Nat → Prop} {cs cs' : List Value} {c : Cd} (h : CdAt w S cs c) (h' : CdAt w S' cs' c) : Yes 12 #[.agg cs.toArray, .agg cs'.toArray] w := same_cd h w (Below.refl _ _) cs' h'
end Go.Proofs.YtcemlhfodpelaaaGreatDoor
