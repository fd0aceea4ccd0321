/- The contracts of anvillaw5.Big and anvillaw5.Much. -/
import Derived.Test.YtamohpcdchhbbaaGreatDoorTreeAny
namespace Go.Proofs.YtamohpcdchhbbaaGreatDoor
open Go.RowKit Go.Maps

/-- an answer that tells something if it is false -/
def Told (r : Ending) (p : Prop) : Prop := ∃ b, r = .returned (.bool b) ∧ (b = false → p)
theorem Told.yes (p : Prop) : Told (.returned (.bool true)) p := ⟨true, rfl, fun e => by cases e⟩
theorem Told.no {p : Prop} (h : p) : Told (.returned (.bool false)) p := ⟨false, rfl, fun _ => h⟩
def Lim (n : Nv) : Prop := n.path.length ≤ 140737488355328 ∧ n.nd.data.length ≤ 140737488355328
def Sml (n : Nv) : Prop := n.path.length ≤ 300000 ∧ n.nd.data.length ≤ 300000
set_option maxRecDepth 100000 in
set_option maxHeartbeats 4000000 in
theorem big_row (g o cap : Nat) (ns : List Nv) (clk rm : Int) (w : World) (h : NRow w g o ns) (hr : ∀ n ∈ ns, Rds w n.dv n.nd.data) (hlim : ∀ n ∈ ns, Lim n) (_hc : ns.length ≤ cap) (hml : ns.length ≤ 140737488355328) :
    Calls Tryz.prog 8 #[.agg #[.slice (some ⟨g, o, none⟩) ns.length cap, .int .i64 clk, .int .i64 rm]] w fun r w' => Told r (ns.length ≤ 1100 ∧ ∀ n ∈ ns, Sml n) ∧ Below w.heap.size w w' := by
  have hb0 : Below w.heap.size w (w.alloc (.cells #[.slice (some ⟨g, o, none⟩) ns.length cap, .int .i64 clk, .int .i64 rm] 24)) := (Below.refl _ _).alloc (Nat.le_refl _) _
  have z1 := alloc_new w (.cells #[.slice (some ⟨g, o, none⟩) ns.length cap, .int .i64 clk, .int .i64 rm] 24)
  go_enter Tryz.func8, Tryz.ntmps8
  go_wp2
  obtain ⟨w0, hw0⟩ : ∃ w0, w0 = w.alloc (.cells #[.slice (some ⟨g, o, none⟩) ns.length cap, .int .i64 clk, .int .i64 rm] 24) := ⟨_, rfl⟩
  have hs0 : w0.heap.size = w.heap.size + 1 := by rw [hw0]; simp
  rw [← hw0] at hb0 z1 ⊢
  clear hw0
  go_loopw [3, 4] (fun n i wr => ∃ k s : Nat, k ≤ ns.length ∧ i = .int .i64 k ∧ n = .int .i64 s ∧ s ≤ 300000 + 1 + 140737488355328 + 140737488355328 ∧ (s ≤ 300000 → ∀ n ∈ ns.take k, Sml n) ∧ Below w0.heap.size w0 wr) (fun _ i _ => ns.length - (intOf i).toNat)
  case atStart => exact ⟨0, 0, by omega, rfl, rfl, by omega, fun _ n hn => by simp at hn, Below.refl _ _⟩
  case round =>
    obtain ⟨k, s, hk, rfl, rfl, hsb, hsm, hB⟩ := hrel
    have y1 := (hB.block _ (by omega)).trans z1
    have a0 : wr.cell? ⟨w.heap.size, 0, none⟩ = some (.slice (some ⟨g, o, none⟩) ns.length cap) := by rw [Lib.cell_of_heap y1]; rfl
    have hBw : Below w.heap.size w wr := hb0.trans (hB.mono (by omega))
    clear y1 z1
    by_cases hkl : k < ns.length
    · have k1 : (k : Int) < ns.length := by omega
      by_cases hs : s ≤ 300000
      · have k2 : (s : Int) ≤ 300000 := by omega
        obtain ⟨n, hn⟩ : ∃ n, ns[k]? = some n := ⟨_, List.getElem?_eq_getElem hkl⟩
        have hR := h.below hBw
        have d0 := hR.c0 k n hn
        have d3 := hR.c3 k n hn
        have hmem := List.mem_of_getElem? hn
        obtain ⟨da, dc, hdv⟩ := (hr n hmem).len
        rw [hdv] at d3
        obtain ⟨l1, l2⟩ := hlim n hmem
        have hz : (mk n.path).size = n.path.length := mk_size _
        have hst : s + 1 + n.path.length + n.nd.data.length ≤ 300000 → ∀ m ∈ ns.take (k + 1), Sml m := by
          intro hle m hm
          rw [List.take_add_one, hn] at hm
          rcases List.mem_append.1 hm with hm | hm
          · exact hsm hs m hm
          · have : m = n := by simpa using hm
            rw [this]; exact ⟨by omega, by omega⟩
        generalize hpl : n.path.length = pl at *
        generalize n.nd.data.length = dl at *
        generalize mk n.path = P at *
        have hBd : Below w0.heap.size w0 wr.drew := hB.drew
        clear hR h hr hlim hn hmem hsm
        go_wp2
        go_quiet (fail)
        go_wp2
        exact ⟨⟨k + 1, s + 1 + pl + dl, by omega, by simp, by simp, by omega, hst, hB.trans (below_drewn _)⟩, by simp [intOf]; omega⟩
      · have k2 : ¬ (s : Int) ≤ 300000 := by omega
        have k3 : 300000 < (s : Int) := by omega
        go_wp2
        go_ret
        exact ⟨Told.yes _, hBw⟩
    · obtain rfl : k = ns.length := by omega
      rw [List.take_length] at hsm
      have k1 : ¬ (ns.length : Int) < ns.length := by omega
      by_cases hs : s ≤ 300000
      · have k3 : ¬ 300000 < (s : Int) := by omega
        by_cases hl : ns.length ≤ 1100
        · have k4 : ¬ 1100 < (ns.length : Int) := by omega
          go_wp2
          go_ret
          exact ⟨Told.no (hsm hs), hBw⟩
        · have k4 : 1100 < (ns.length : Int) := by omega
          go_wp2
          go_ret
          exact ⟨Told.yes _, hBw⟩
      · have k3 : 300000 < (s : Int) := by omega
        go_wp2
        go_ret
        exact ⟨Told.yes _, hBw⟩
set_option maxRecDepth 100000 in
set_option maxHeartbeats 4000000 in
theorem big_nil (a : Option Addr) (c : Nat) (clk rm : Int) (w : World) :
    Calls Tryz.prog 8 #[.agg #[.slice a 0 c, .int .i64 clk, .int .i64 rm]] w fun r w' => r = .returned (.bool false) ∧ Below w.heap.size w w' := by
  have hb0 : Below w.heap.size w (w.alloc (.cells #[.slice a 0 c, .int .i64 clk, .int .i64 rm] 24)) := (Below.refl _ _).alloc (Nat.le_refl _) _
  go_enter Tryz.func8, Tryz.ntmps8
  go_wp2
  go_loopw [3, 4] (fun n i wr => i = .int .i64 0 ∧ n = .int .i64 0 ∧ wr = w.alloc (.cells #[.slice a 0 c, .int .i64 clk, .int .i64 rm] 24)) (fun _ _ _ => 0)
  case atStart => exact ⟨rfl, rfl, rfl⟩
  case round =>
    obtain ⟨rfl, rfl, rfl⟩ := hrel
    go_wp2
    go_ret
    exact ⟨rfl, hb0⟩
/-- Big -/
theorem Big_any (v : Value) (ns : List Nv) (clk rm : Int) (w : World) (h : Nodes w v ns) (hlim : ∀ n ∈ ns, Lim n) (hml : ns.length ≤ 140737488355328) :
    Calls Tryz.prog 8 #[.agg #[v, .int .i64 clk, .int .i64 rm]] w fun r w' => Told r (ns.length ≤ 1100 ∧ ∀ n ∈ ns, Sml n) ∧ Below w.heap.size w w' := by
  rcases h with ⟨⟨a, c, rfl⟩, rfl⟩ | ⟨g, o, cap, rfl, h0, h1, h2⟩
  · exact (big_nil a c clk rm w).mono fun r w' ⟨hr, hb⟩ => ⟨⟨false, hr, fun _ => ⟨by simp, fun n hn => by cases hn⟩⟩, hb⟩
  · exact big_row g o cap ns clk rm w h1 h2 hlim h0 hml

/-- a call, as it is handed in -/
structure Ov where
  kind : Int
  p : ByteArray
  q : ByteArray
  bv : Value
  b : Bs
structure ORow (w : World) (g o : Nat) (os : List Ov) : Prop where
  lt : os ≠ [] → g < w.heap.size
  c0 : ∀ i n, os[i]? = some n → w.cell? ⟨g, o + i * 4, none⟩ = some (.int .i64 n.kind)
  c1 : ∀ i n, os[i]? = some n → w.cell? ⟨g, o + i * 4 + 1, none⟩ = some (.string n.p)
  c2 : ∀ i n, os[i]? = some n → w.cell? ⟨g, o + i * 4 + 2, none⟩ = some (.string n.q)
  c3 : ∀ i n, os[i]? = some n → w.cell? ⟨g, o + i * 4 + 3, none⟩ = some n.bv
def OpsAt (w : World) (v : Value) (os : List Ov) : Prop :=
  ((∃ a cap, v = .slice a 0 cap) ∧ os = []) ∨ ∃ g o cap, v = .slice (some ⟨g, o, none⟩) os.length cap ∧ os.length ≤ cap ∧ ORow w g o os ∧ ∀ n ∈ os, Rds w n.bv n.b
theorem ORow.below {w w' : World} {g o : Nat} {os : List Ov} (h : ORow w g o os) (hb : Below w.heap.size w w') : ORow w' g o os := by
  have lt : ∀ {i : Nat} {n : Ov}, os[i]? = some n → g < w.heap.size := fun {i n} hi => h.lt fun e => by rw [e] at hi; simp at hi
  exact ⟨fun hne => Nat.lt_of_lt_of_le (h.lt hne) hb.size, fun i n hi => (hb.cell (p := ⟨g, _, none⟩) (lt hi)).trans (h.c0 i n hi), fun i n hi => (hb.cell (p := ⟨g, _, none⟩) (lt hi)).trans (h.c1 i n hi),
    fun i n hi => (hb.cell (p := ⟨g, _, none⟩) (lt hi)).trans (h.c2 i n hi), fun i n hi => (hb.cell (p := ⟨g, _, none⟩) (lt hi)).trans (h.c3 i n hi)⟩
theorem OpsAt.below {w w' : World} {v : Value} {os : List Ov} (h : OpsAt w v os) (hb : Below w.heap.size w w') : OpsAt w' v os := by
  rcases h with ⟨⟨a, c, rfl⟩, rfl⟩ | ⟨g, o, cap, rfl, h0, h1, h2⟩
  · exact .inl ⟨⟨_, _, rfl⟩, rfl⟩
  · exact .inr ⟨g, o, cap, rfl, h0, h1.below hb, fun n hn => (h2 n hn).below hb⟩
theorem OpsAt.len {w : World} {v : Value} {os : List Ov} (h : OpsAt w v os) : ∃ a cap, v = .slice a os.length cap := by
  rcases h with ⟨⟨a, c, rfl⟩, rfl⟩ | ⟨g, o, cap, rfl, _⟩
  · exact ⟨_, _, rfl⟩
  · exact ⟨_, _, rfl⟩
def OLim (n : Ov) : Prop := n.p.size ≤ 140737488355328 ∧ n.q.size ≤ 140737488355328 ∧ n.b.length ≤ 140737488355328
def OSml (n : Ov) : Prop := n.p.size ≤ 200000 ∧ n.q.size ≤ 200000 ∧ n.b.length ≤ 200000
set_option maxRecDepth 100000 in
set_option maxHeartbeats 4000000 in
theorem much_row (g o cap : Nat) (os : List Ov) (w : World) (h : ORow w g o os) (hr : ∀ n ∈ os, Rds w n.bv n.b) (hlim : ∀ n ∈ os, OLim n) (_hc : os.length ≤ cap) (hml : os.length ≤ 140737488355328) :
    Calls Tryz.prog 17 #[.slice (some ⟨g, o, none⟩) os.length cap] w fun r w' => Told r (os.length ≤ 200 ∧ ∀ n ∈ os, OSml n) ∧ Below w.heap.size w w' := by
  go_enter Tryz.func17, Tryz.ntmps17
  go_wp2
  go_loopw [3, 4] (fun n i wr => ∃ k s : Nat, k ≤ os.length ∧ i = .int .i64 k ∧ n = .int .i64 s ∧ s ≤ 200000 + 1 + 140737488355328 + 140737488355328 + 140737488355328 ∧ (s ≤ 200000 → ∀ n ∈ os.take k, OSml n) ∧ Below w.heap.size w wr) (fun _ i _ => os.length - (intOf i).toNat)
  case atStart => exact ⟨0, 0, by omega, rfl, rfl, by omega, fun _ n hn => by simp at hn, Below.refl _ _⟩
  case round =>
    obtain ⟨k, s, hk, rfl, rfl, hsb, hsm, hB⟩ := hrel
    by_cases hkl : k < os.length
    · have k1 : (k : Int) < os.length := by omega
      by_cases hs : s ≤ 200000
      · have k2 : (s : Int) ≤ 200000 := by omega
        obtain ⟨n, hn⟩ : ∃ n, os[k]? = some n := ⟨_, List.getElem?_eq_getElem hkl⟩
        have hR := h.below hB
        have d1 := hR.c1 k n hn
        have d2 := hR.c2 k n hn
        have d3 := hR.c3 k n hn
        have hmem := List.mem_of_getElem? hn
        obtain ⟨da, dc, hdv⟩ := (hr n hmem).len
        rw [hdv] at d3
        obtain ⟨l1, l2, l3⟩ := hlim n hmem
        have hst : s + 1 + n.p.size + n.q.size + n.b.length ≤ 200000 → ∀ m ∈ os.take (k + 1), OSml m := by
          intro hle m hm
          rw [List.take_add_one, hn] at hm
          rcases List.mem_append.1 hm with hm | hm
          · exact hsm hs m hm
          · have : m = n := by simpa using hm
            rw [this]; exact ⟨by omega, by omega, by omega⟩
        obtain ⟨kd, P, Q, bv, b⟩ := n
        simp only at *
        generalize hpl : P.size = pl at *
        generalize hql : Q.size = ql at *
        generalize b.length = dl at *
        clear hR h hr hlim hn hmem hsm
        go_wp2
        go_quiet (fail)
        go_wp2
        exact ⟨⟨k + 1, s + 1 + pl + ql + dl, by omega, by simp, by simp, by omega, hst, hB.trans (below_drewn _)⟩, by simp [intOf]; omega⟩
      · have k2 : ¬ (s : Int) ≤ 200000 := by omega
        have k3 : 200000 < (s : Int) := by omega
        go_wp2
        go_ret
        exact ⟨Told.yes _, hB⟩
    · obtain rfl : k = os.length := by omega
      rw [List.take_length] at hsm
      have k1 : ¬ (os.length : Int) < os.length := by omega
      by_cases hs : s ≤ 200000
      · have k3 : ¬ 200000 < (s : Int) := by omega
        by_cases hl : os.length ≤ 200
        · have k4 : ¬ 200 < (os.length : Int) := by omega
          go_wp2
          go_ret
          exact ⟨Told.no (hsm hs), hB⟩
        · have k4 : 200 < (os.length : Int) := by omega
          go_wp2
          go_ret
          exact ⟨Told.yes _, hB⟩
      · have k3 : 200000 < (s : Int) := by omega
        go_wp2
        go_ret
        exact ⟨Told.yes _, hB⟩
set_option maxRecDepth 100000 in
set_option maxHeartbeats 4000000 in
theorem much_nil (a : Option Addr) (c : Nat) (w : World) : Calls Tryz.prog 17 #[.slice a 0 c] w fun r w' => r = .returned (.bool false) ∧ Below w.heap.size w w' := by
  go_enter Tryz.func17, Tryz.ntmps17
  go_wp2
  go_loopw [3, 4] (fun n i wr => i = .int .i64 0 ∧ n = .int .i64 0 ∧ wr = w) (fun _ _ _ => 0)
  case atStart => exact ⟨rfl, rfl, rfl⟩
  case round =>
    obtain ⟨rfl, rfl, rfl⟩ := hrel
    go_wp2
    go_ret
    exact ⟨rfl, Below.refl _ _⟩
/-- Much -/
theorem Much_any (v : Value) (os : List Ov) (w : World) (h : OpsAt w v os) (hlim : ∀ n ∈ os, OLim n) (hml : os.length ≤ 140737488355328) :
    Calls Tryz.prog 17 #[v] w fun r w' => Told r (os.length ≤ 200 ∧ ∀ n ∈ os, OSml n) ∧ Below w.heap.size w w' := by
  rcases h with ⟨⟨a, c, rfl⟩, rfl⟩ | ⟨g, o, cap, rfl, h0, h1, h2⟩
  · exact (much_nil a c w).mono fun r w' ⟨hr, hb⟩ => ⟨⟨false, hr, fun _ => ⟨by simp, fun n hn => by cases hn⟩⟩, hb⟩
  · exact much_row g o cap os w h1 h2 hlim h0 hml
end Go.Proofs.YtamohpcdchhbbaaGreatDoor
