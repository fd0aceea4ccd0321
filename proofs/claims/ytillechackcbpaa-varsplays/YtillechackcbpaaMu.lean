/- The calls of a law as they are handed in; the contract of the law's Much. -/
import Derived.Test.YtillechackcbpaaDo
import Derived.BigQuiet
namespace Go.Proofs.Ytillechackcbpaa
open Go.RowKit Go.Maps

structure ORow (w : World) (g o : Nat) (os : List Ov) : Prop where
  lt : os ≠ [] → g < w.heap.size
  c0 : ∀ i n, os[i]? = some n → w.cell? ⟨g, o + i * 5, none⟩ = some (.int .i64 n.kind)
  c1 : ∀ i n, os[i]? = some n → w.cell? ⟨g, o + i * 5 + 1, none⟩ = some (.string (mk n.nm))
  c2 : ∀ i n, os[i]? = some n → w.cell? ⟨g, o + i * 5 + 2, none⟩ = some (.string (mk n.vl))
  c3 : ∀ i n, os[i]? = some n → w.cell? ⟨g, o + i * 5 + 3, none⟩ = some (.int .i64 n.flav)
  c4 : ∀ i n, os[i]? = some n → w.cell? ⟨g, o + i * 5 + 4, none⟩ = some (.int .i64 n.orig)
def OpsAt (w : World) (v : Value) (os : List Ov) : Prop :=
  ((∃ a cap, v = .slice a 0 cap) ∧ os = []) ∨ ∃ g o cap, v = .slice (some ⟨g, o, none⟩) os.length cap ∧ os.length ≤ cap ∧ ORow w g o os
theorem ORow.below {w w' : World} {B : Nat} {g o : Nat} {os : List Ov} (h : ORow w g o os) (hb : Below B w w') (hg : os ≠ [] → g < B) : ORow w' g o os := by
  have lt : ∀ {i : Nat} {n : Ov}, os[i]? = some n → g < B := fun {i n} hi => hg fun e => by rw [e] at hi; simp at hi
  exact ⟨fun hne => Nat.lt_of_lt_of_le (h.lt hne) hb.size, fun i n hi => (hb.cell (p := ⟨g, _, none⟩) (lt hi)).trans (h.c0 i n hi), fun i n hi => (hb.cell (p := ⟨g, _, none⟩) (lt hi)).trans (h.c1 i n hi),
    fun i n hi => (hb.cell (p := ⟨g, _, none⟩) (lt hi)).trans (h.c2 i n hi), fun i n hi => (hb.cell (p := ⟨g, _, none⟩) (lt hi)).trans (h.c3 i n hi), fun i n hi => (hb.cell (p := ⟨g, _, none⟩) (lt hi)).trans (h.c4 i n hi)⟩
theorem OpsAt.below {w w' : World} {v : Value} {os : List Ov} (h : OpsAt w v os) (hb : Below w.heap.size w w') : OpsAt w' v os := by
  rcases h with ⟨⟨a, c, rfl⟩, rfl⟩ | ⟨g, o, cap, rfl, h0, h1⟩
  · exact .inl ⟨⟨_, _, rfl⟩, rfl⟩
  · exact .inr ⟨g, o, cap, rfl, h0, h1.below hb h1.lt⟩
theorem OpsAt.len {w : World} {v : Value} {os : List Ov} (h : OpsAt w v os) : ∃ a cap, v = .slice a os.length cap := by
  rcases h with ⟨⟨a, c, rfl⟩, rfl⟩ | ⟨g, o, cap, rfl, _⟩
  · exact ⟨_, _, rfl⟩
  · exact ⟨_, _, rfl⟩
def OLim (n : Ov) : Prop := n.nm.length ≤ 140737488355328 ∧ n.vl.length ≤ 140737488355328
/-- how much calls are, all told -/
def osum : List Ov → Nat
  | [] => 0
  | n :: r => 1 + n.nm.length + n.vl.length + osum r
theorem osum_snoc (l : List Ov) (n : Ov) : osum (l ++ [n]) = osum l + 1 + n.nm.length + n.vl.length := by
  induction l with
  | nil => simp [osum]
  | cons x r ih => simp only [List.cons_append, osum, ih]; omega
theorem osum_take {os : List Ov} {k : Nat} {n : Ov} (h : os[k]? = some n) : osum (os.take (k + 1)) = osum (os.take k) + 1 + n.nm.length + n.vl.length := by
  rw [List.take_add_one, h]
  exact osum_snoc _ _
theorem osum_mono (os : List Ov) (k : Nat) : osum (os.take k) ≤ osum os := by
  induction os generalizing k with
  | nil => simp
  | cons x r ih =>
    cases k with
    | zero => simp [osum]
    | succ k => simp only [List.take_succ_cons, osum]; have := ih k; omega
def Told (r : Ending) (P : Prop) : Prop := ∃ b, r = .returned (.bool b) ∧ (b = false → P)
theorem Told.yes (P : Prop) : Told (.returned (.bool true)) P := ⟨true, rfl, fun h => by cases h⟩
theorem Told.no {P : Prop} (h : P) : Told (.returned (.bool false)) P := ⟨false, rfl, fun _ => h⟩
set_option maxRecDepth 100000 in
set_option maxHeartbeats 4000000 in
theorem much_row (g o cap : Nat) (os : List Ov) (w : World) (h : ORow w g o os) (hlim : ∀ n ∈ os, OLim n) (_hc : os.length ≤ cap) (hml : os.length ≤ 140737488355328) :
    Calls Try.prog 8 #[.slice (some ⟨g, o, none⟩) os.length cap] w fun r w' => Told r (osum os ≤ 30000) ∧ Below w.heap.size w w' := by
  go_enter Try.func8, Try.ntmps8
  go_wp2
  go_loopw [3, 4] (fun n i wr => ∃ k s : Nat, k ≤ os.length ∧ i = .int .i64 k ∧ n = .int .i64 s ∧ s ≤ 30000 + 1 + 140737488355328 + 140737488355328 ∧ s = osum (os.take k) ∧ Below w.heap.size w wr) (fun _ i _ => os.length - (intOf i).toNat)
  case atStart => exact ⟨0, 0, by omega, rfl, rfl, by omega, by simp [osum], Below.refl _ _⟩
  case round =>
    obtain ⟨k, s, hk, rfl, rfl, hsb, hsm, hB⟩ := hrel
    by_cases hkl : k < os.length
    · have k1 : (k : Int) < os.length := by omega
      by_cases hs : s ≤ 30000
      · have k2 : (s : Int) ≤ 30000 := by omega
        obtain ⟨n, hn⟩ : ∃ n, os[k]? = some n := ⟨_, List.getElem?_eq_getElem hkl⟩
        have hR := h.below hB h.lt
        have d1 := hR.c1 k n hn
        have d2 := hR.c2 k n hn
        have hmem := List.mem_of_getElem? hn
        obtain ⟨l1, l2⟩ := hlim n hmem
        have hst : s + 1 + n.nm.length + n.vl.length = osum (os.take (k + 1)) := by rw [osum_take hn, ← hsm]
        have HS := hide' hst
        obtain ⟨kd, P, Q, fl, og⟩ := n
        simp only at *
        clear hR h hlim hn hmem hsm hst
        go_wp2
        go_quiet (fail)
        go_wp2
        exact ⟨⟨k + 1, s + 1 + P.length + Q.length, by omega, by simp, by simp, by omega, HS.out, hB.trans (below_drewn _)⟩, by simp [intOf]; omega⟩
      · have k2 : ¬ (s : Int) ≤ 30000 := by omega
        have k3 : 30000 < (s : Int) := by omega
        go_wp2
        go_ret
        exact ⟨Told.yes _, hB⟩
    · obtain rfl : k = os.length := by omega
      rw [List.take_length] at hsm
      have k1 : ¬ (os.length : Int) < os.length := by omega
      by_cases hs : s ≤ 30000
      · have k3 : ¬ 30000 < (s : Int) := by omega
        have HS := hide' hsm
        clear hsm
        by_cases hl : os.length ≤ 300
        · have k4 : ¬ 300 < (os.length : Int) := by omega
          go_wp2
          go_ret
          exact ⟨Told.no (by rw [← HS.out]; exact hs), hB⟩
        · have k4 : 300 < (os.length : Int) := by omega
          go_wp2
          go_ret
          exact ⟨Told.yes _, hB⟩
      · have k3 : 30000 < (s : Int) := by omega
        clear hsm
        go_wp2
        go_ret
        exact ⟨Told.yes _, hB⟩
set_option maxRecDepth 100000 in
set_option maxHeartbeats 4000000 in
theorem much_nil (a : Option Addr) (c : Nat) (w : World) : Calls Try.prog 8 #[.slice a 0 c] w fun r w' => r = .returned (.bool false) ∧ Below w.heap.size w w' := by
  go_enter Try.func8, Try.ntmps8
  go_wp2
  go_loopw [3, 4] (fun n i wr => i = .int .i64 0 ∧ n = .int .i64 0 ∧ wr = w) (fun _ _ _ => 0)
  case atStart => exact ⟨rfl, rfl, rfl⟩
  case round =>
    obtain ⟨rfl, rfl, rfl⟩ := hrel
    go_wp2
    go_ret
    exact ⟨rfl, Below.refl _ _⟩
/-- Much -/
theorem much_any (v : Value) (os : List Ov) (w : World) (h : OpsAt w v os) (hlim : ∀ n ∈ os, OLim n) (hml : os.length ≤ 140737488355328) :
    Calls Try.prog 8 #[v] w fun r w' => Told r (osum os ≤ 30000) ∧ Below w.heap.size w w' := by
  rcases h with ⟨⟨a, c, rfl⟩, rfl⟩ | ⟨g, o, cap, rfl, h0, h1⟩
  · exact (much_nil a c w).mono fun r w' ⟨hr, hb⟩ => ⟨⟨false, hr, fun _ => by simp [osum]⟩, hb⟩
  · exact much_row g o cap os w h1 hlim h0 hml
end Go.Proofs.Ytillechackcbpaa
