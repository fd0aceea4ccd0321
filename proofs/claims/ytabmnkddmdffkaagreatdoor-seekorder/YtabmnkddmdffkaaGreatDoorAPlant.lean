/- The contracts of vfs.checkLengths, fitsIn, planted, New. -/
import Derived.Test.YtabmnkddmdffkaaGreatDoorATwin
namespace Go.Proofs.YtabmnkddmdffkaaGreatDoor
open Go.RowKit Go.Maps

theorem size_alloc' (w : World) (o : Obj) : (w.alloc o).heap.size = w.heap.size + 1 := by simp
theorem isErr_alloc (W : World) (E : Addr) (n : Nat) (p : ByteArray) : IsErr (W.alloc (.cells #[.string p, .iface 31 (.int .i64 n)] 107)) E (.iface 105 (.pointer (some ⟨W.heap.size, 0, none⟩))) (.no n) := ⟨_, rfl, p, alloc_new _ _⟩
/-- a node as it is handed in: its path, the slice of its bytes, the node -/
structure Nv where
  path : Bs
  dv : Value
  nd : Nd
/-- a row of nodes in memory -/
structure NRow (w : World) (g o : Nat) (ns : List Nv) : Prop where
  lt : g < w.heap.size
  c0 : ∀ i n, ns[i]? = some n → w.cell? ⟨g, o + i * 4, none⟩ = some (.string (mk n.path))
  c1 : ∀ i n, ns[i]? = some n → w.cell? ⟨g, o + i * 4 + 1, none⟩ = some (.bool n.nd.dir)
  c2 : ∀ i n, ns[i]? = some n → w.cell? ⟨g, o + i * 4 + 2, none⟩ = some (.int .i64 n.nd.time)
  c3 : ∀ i n, ns[i]? = some n → w.cell? ⟨g, o + i * 4 + 3, none⟩ = some n.dv
def long (n : Nv) : Bool := !n.nd.dir && decide (65536 < n.nd.data.length)
def lenR (ns : List Nv) : Er := if ns.length > 1000 ∨ ns.any long = true then .no 2 else .ok
def Nodes (w : World) (v : Value) (ns : List Nv) : Prop :=
  ((∃ a cap, v = .slice a 0 cap) ∧ ns = []) ∨ ∃ g o cap, v = .slice (some ⟨g, o, none⟩) ns.length cap ∧ ns.length ≤ cap ∧ NRow w g o ns ∧ ∀ n ∈ ns, Rds w n.dv n.nd.data
theorem NRow.below {w w' : World} {g o : Nat} {ns : List Nv} (h : NRow w g o ns) (hb : Below w.heap.size w w') : NRow w' g o ns :=
  ⟨Nat.lt_of_lt_of_le h.lt hb.size, fun i n hi => (hb.cell (p := ⟨g, _, none⟩) h.lt).trans (h.c0 i n hi), fun i n hi => (hb.cell (p := ⟨g, _, none⟩) h.lt).trans (h.c1 i n hi),
    fun i n hi => (hb.cell (p := ⟨g, _, none⟩) h.lt).trans (h.c2 i n hi), fun i n hi => (hb.cell (p := ⟨g, _, none⟩) h.lt).trans (h.c3 i n hi)⟩
theorem Nodes.below {w w' : World} {v : Value} {ns : List Nv} (h : Nodes w v ns) (hb : Below w.heap.size w w') : Nodes w' v ns := by
  rcases h with ⟨⟨a, c, rfl⟩, rfl⟩ | ⟨g, o, cap, rfl, h0, h1, h2⟩
  · exact .inl ⟨⟨_, _, rfl⟩, rfl⟩
  · exact .inr ⟨g, o, cap, rfl, h0, h1.below hb, fun n hn => (h2 n hn).below hb⟩
theorem Nodes.len {w : World} {v : Value} {ns : List Nv} (h : Nodes w v ns) : ∃ a cap, v = .slice a ns.length cap := by
  rcases h with ⟨⟨a, c, rfl⟩, rfl⟩ | ⟨g, o, cap, rfl, _⟩
  · exact ⟨_, _, rfl⟩
  · exact ⟨_, _, rfl⟩

set_option maxRecDepth 100000 in
set_option maxHeartbeats 2000000 in
theorem lengths_row (E : Addr) (g o : Nat) (cap : Nat) (ns : List Nv) (clk rm : Int) (w : World) (h : NRow w g o ns) (hr : ∀ n ∈ ns, Rds w n.dv n.nd.data) (hl : ns.length ≤ 1000) :
    Calls Tryz.prog 48 #[.agg #[.slice (some ⟨g, o, none⟩) ns.length cap, .int .i64 clk, .int .i64 rm]] w fun r w' => (∃ v, r = .returned v ∧ IsErr w' E v (lenR ns)) ∧ Below w.heap.size w w' := by
  have k1 : ¬ (1000 : Int) < ns.length := by omega
  go_enter Tryz.func48, Tryz.ntmps48
  go_wp2
  have hb0 : Below w.heap.size w (w.alloc (.cells #[.slice (some ⟨g, o, none⟩) ns.length cap, .int .i64 clk, .int .i64 rm] 24)) := (Below.refl _ _).alloc (Nat.le_refl _) _
  go_loopw [16] (fun i wr => ∃ k : Nat, k ≤ ns.length ∧ i = .int .i64 k ∧ (ns.take k).any long = false ∧ Below w.heap.size w wr) (fun i _ => ns.length - (intOf i).toNat)
  case atStart => exact ⟨0, by omega, rfl, rfl, hb0⟩
  case round =>
    obtain ⟨k, hk, rfl, hno, hB⟩ := hrel
    by_cases hkl : k < ns.length
    · obtain ⟨n, hn⟩ : ∃ n, ns[k]? = some n := ⟨_, List.getElem?_eq_getElem hkl⟩
      have hR := h.below hB
      have d0 := hR.c0 k n hn
      have d1 := hR.c1 k n hn
      have d2 := hR.c2 k n hn
      have d3 := hR.c3 k n hn
      have hnm : n ∈ ns := List.mem_of_getElem? hn
      obtain ⟨da, dc, hdv⟩ := (hr n hnm).len
      rw [hdv] at d3
      have k2 : (k : Int) < ns.length := by omega
      have htk : (ns.take (k + 1)).any long = long n := by rw [List.take_add_one, List.any_append, hno, hn]; simp
      have hB2 : ∀ o : Obj, Below w.heap.size w (wr.alloc o) := fun o => hB.alloc hB.size o
      clear hR hB h
      cases hdir : n.nd.dir with
      | true =>
        rw [hdir] at d1
        have hlo : long n = false := by unfold long; rw [hdir]; rfl
        go_wp2
        exact ⟨⟨k + 1, by omega, by simp, by rw [htk, hlo], hB2 _⟩, by simp [intOf]; omega⟩
      | false =>
        rw [hdir] at d1
        by_cases hdl : 65536 < n.nd.data.length
        · have hlo : long n = true := by unfold long; rw [hdir, decide_eq_true hdl]; rfl
          have k3 : (65536 : Int) < n.nd.data.length := by omega
          go_wp2
          go_ret
          refine ⟨⟨_, rfl, ?_⟩, (hB2 _).alloc (by have := (hB2 (.cells #[] 0)).size; simp at this ⊢; omega) _⟩
          unfold lenR
          rw [if_pos (.inr (List.any_eq_true.2 ⟨n, hnm, hlo⟩))]
          have q := isErr_alloc (wr.alloc (.cells #[.string (mk n.path), .bool false, .int .i64 n.nd.time, .slice da n.nd.data.length dc] 60)) E 2 (mk n.path)
          simp only [size_alloc'] at q
          exact q
        · have hlo : long n = false := by unfold long; rw [hdir, decide_eq_false hdl]; rfl
          have k3 : ¬ (65536 : Int) < n.nd.data.length := by omega
          go_wp2
          exact ⟨⟨k + 1, by omega, by simp, by rw [htk, hlo], hB2 _⟩, by simp [intOf]; omega⟩
    · obtain rfl : k = ns.length := by omega
      rw [List.take_length] at hno
      clear h
      go_wp2
      go_ret
      refine ⟨⟨_, rfl, ?_⟩, hB⟩
      unfold lenR
      rw [if_neg (by rintro (h | h); omega; rw [hno] at h; cases h)]
      rfl
set_option maxHeartbeats 1000000 in
theorem lengths_nil (E : Addr) (a : Option Addr) (c : Nat) (clk rm : Int) (w : World) :
    Calls Tryz.prog 48 #[.agg #[.slice a 0 c, .int .i64 clk, .int .i64 rm]] w fun r w' => (∃ v, r = .returned v ∧ IsErr w' E v (lenR [])) ∧ Below w.heap.size w w' := by
  go_enter Tryz.func48, Tryz.ntmps48
  go_wp2
  go_loopw [16] (fun i wr => i = .int .i64 0 ∧ Below w.heap.size w wr) (fun _ _ => 0)
  case atStart => exact ⟨rfl, (Below.refl _ _).alloc (Nat.le_refl _) _⟩
  case round =>
    obtain ⟨rfl, hB⟩ := hrel
    go_wp2
    go_ret
    exact ⟨⟨_, rfl, rfl⟩, hB⟩
set_option maxHeartbeats 1000000 in
theorem lengths_much (E : Addr) (a : Option Addr) (n cap : Nat) (hn : 1000 < n) (clk rm : Int) (w : World) :
    Calls Tryz.prog 48 #[.agg #[.slice a n cap, .int .i64 clk, .int .i64 rm]] w fun r w' => (∃ v, r = .returned v ∧ IsErr w' E v (.no 2)) ∧ Below w.heap.size w w' := by
  have k1 : (1000 : Int) < n := by omega
  go_enter Tryz.func48, Tryz.ntmps48
  go_wp2
  go_ret
  refine ⟨⟨_, rfl, ?_⟩, ((Below.refl _ _).alloc (Nat.le_refl _) _).alloc (by simp) _⟩
  have q := isErr_alloc (w.alloc (.cells #[.slice a n cap, .int .i64 clk, .int .i64 rm] 24)) E 2 { data := #[] }
  simp only [size_alloc'] at q
  exact q
theorem lengths_any (E : Addr) (v : Value) (ns : List Nv) (clk rm : Int) (w : World) (h : Nodes w v ns) :
    Calls Tryz.prog 48 #[.agg #[v, .int .i64 clk, .int .i64 rm]] w fun r w' => (∃ v, r = .returned v ∧ IsErr w' E v (lenR ns)) ∧ Below w.heap.size w w' := by
  by_cases hl : ns.length ≤ 1000
  · rcases h with ⟨⟨a, c, rfl⟩, rfl⟩ | ⟨g, o, cap, rfl, h0, h1, h2⟩
    · exact lengths_nil E a c clk rm w
    · exact lengths_row E g o cap ns clk rm w h1 h2 hl
  · have e : lenR ns = .no 2 := by unfold lenR; rw [if_pos (.inl (by omega))]
    rw [e]
    obtain ⟨a, cap, rfl⟩ := h.len
    exact lengths_much E a _ cap (by omega) clk rm w
end Go.Proofs.YtabmnkddmdffkaaGreatDoor
