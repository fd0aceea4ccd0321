import Derived.Test.YtabmnkddmdffkaaGreatDoorATreeAnyG
namespace Go.Proofs.YtabmnkddmdffkaaGreatDoor
open Go.RowKit Go.Maps
def Told (r : Ending) (p : Prop) : Prop := ∃ b, r = .returned (.bool b) ∧ (b = false → p)
theorem Told.yes (p : Prop) : Told (.returned (.bool true)) p := ⟨true, rfl, fun e => by cases e⟩
theorem Told.no {p : Prop} (h : p) : Told (.returned (.bool false)) p := ⟨false, rfl, fun _ => h⟩
def Lim (n : Nv) : Prop := n.path.length ≤ 140737488355328 ∧ n.nd.data.length ≤ 140737488355328
def Sml (n : Nv) : Prop := n.path.length ≤ 300000 ∧ n.nd.data.length ≤ 300000
set_option maxRecDepth 100000 in
set_option maxHeartbeats 4000000 in
theorem big_row (g o cap : Nat) (ns : List Nv) (clk rm : Int) (w : World) (h : NRow w g o ns) (hr : ∀ n ∈ ns, Rds w n.dv n.nd.data) (hlim : ∀ n ∈ ns, Lim n) (_hc : ns.length ≤ cap) (hml : ns.length ≤ 140737488355328) :
  Calls Tryz.prog 6 #[.agg #[.slice (some ⟨g, o, none⟩) ns.length cap, .int .i64 clk, .int .i64 rm]] w fun r w' => Told r (ns.length ≤ 1100 ∧ ∀ n ∈ ns, Sml n) ∧ Below w.heap.size w w' := by
 have hb0 : Below w.heap.size w (w.alloc (.cells #[.slice (some ⟨g, o, none⟩) ns.length cap, .int .i64 clk, .int .i64 rm] 24)) := (Below.refl _ _).alloc (Nat.le_refl _) _
 have z1 := alloc_new w (.cells #[.slice (some ⟨g, o, none⟩) ns.length cap, .int .i64 clk, .int .i64 rm] 24)
 go_enter Tryz.func6, Tryz.ntmps6
 go_wp2
 obtain ⟨w0, hw0⟩ : ∃ w0, w0 = w.alloc (.cells #[.slice (some ⟨g, o, none⟩) ns.length cap, .int .i64 clk, .int .i64 rm] 24) := ⟨_, rfl⟩
 have hs0 : w0.heap.size = w.heap.size + 1 := by rw [hw0]; simp
 rw [← hw0] at hb0 z1 ⊢
 clear hw0
 go_loopw [3, 4] (fun n i wr => ∃ k s : Nat, k ≤ ns.length ∧ i = .int .i64 k ∧ n = .int .i64 s ∧ s ≤ 300000 + 1 + 140737488355328 + 140737488355328 ∧ (s ≤ 300000 → ∀ n ∈ ns.take k, Sml n) ∧ Below w0.heap.size w0 wr) (fun _ i _ => ns.length - (intOf i).toNat)
 case atStart => exact ⟨0, 0, by omega, rfl, rfl, by omega, fun _ n hn => by simp at hn, Below.refl _ _⟩
 case round =>
  obtain ⟨k, s, hk, rfl, rfl, hsb, hsm, hB⟩ := hrel
  have y1 := (hB.block _ (by omega)).trans z1
  have a0 : wr.cell? ⟨w.heap.size, 0, none⟩ = some (.slice (some ⟨g, o, none⟩) ns.length cap) := by rw [Lib.cell_of_heap y1]; rfl
  have hBw : Below w.heap.size w wr := hb0.trans (hB.mono (by omega))
  clear y1 z1
  by_cases hkl : k < ns.length
  ·have k1 : (k : Int) < ns.length := by omega
   by_cases hs : s ≤ 300000
   ·have k2 : (s : Int) ≤ 300000 := by omega
    obtain ⟨n, hn⟩ : ∃ n, ns[k]? = some n := ⟨_, List.getElem?_eq_getElem hkl⟩
    have hR := h.below hBw
    have d0 := hR.c0 k n hn
    have d3 := hR.c3 k n hn
    have hmem := List.mem_of_getElem? hn
    obtain ⟨da, dc, hdv⟩ := (hr n hmem).len
    rw [hdv] at d3
    obtain ⟨l1, l2⟩ := hlim n hmem
    have hz : (mk n.path).size = n.path.length := mk_size _
    have hst : s + 1 + n.path.length + n.nd.data.length ≤ 300000 → ∀ m ∈ ns.take (k + 1), Sml m := by
     intro hle m hm
     rw [List.take_add_one, hn] at hm
     rcases List.mem_append.1 hm with hm | hm
     ·exact hsm hs m hm
     ·have : m = n := by simpa using hm
      rw [this]; exact ⟨by omega, by omega⟩
    generalize hpl : n.path.length = pl at *
    generalize n.nd.data.length = dl at *
    generalize mk n.path = P at *
    have hBd : Below w0.heap.size w0 wr.drew := hB.drew
    clear hR h hr hlim hn hmem hsm
    go_wp2
    go_quiet (fail)
    go_wp2
    exact ⟨⟨k + 1, s + 1 + pl + dl, by omega, by simp, by simp, by omega, hst, hB.trans (below_drewn _)⟩, by simp [intOf]; omega⟩
   ·have k2 : ¬ (s : Int) ≤ 300000 := by omega
    have k3 : 300000 < (s : Int) := by omega
    go_wp2
    go_ret
    exact ⟨Told.yes _, hBw⟩
  ·obtain rfl : k = ns.length := by omega
   rw [List.take_length] at hsm
   have k1 : ¬ (ns.length : Int) < ns.length := by omega
   by_cases hs : s ≤ 300000
   ·have k3 : ¬ 300000 < (s : Int) := by omega
    by_cases hl : ns.length ≤ 1100
    ·have k4 : ¬ 1100 < (ns.length : Int) := by omega
     go_wp2
     go_ret
     exact ⟨Told.no (hsm hs), hBw⟩
    ·have k4 : 1100 < (ns.length : Int) := by omega
     go_wp2
     go_ret
     exact ⟨Told.yes _, hBw⟩
   ·have k3 : 300000 < (s : Int) := by omega
    go_wp2
    go_ret
    exact ⟨Told.yes _, hBw⟩
set_option maxRecDepth 100000 in
set_option maxHeartbeats 4000000 in
theorem big_nil (a : Option Addr) (c : Nat) (clk rm : Int) (w : World) :
  Calls Tryz.prog 6 #[.agg #[.slice a 0 c, .int .i64 clk, .int .i64 rm]] w fun r w' => r = .returned (.bool false) ∧ Below w.heap.size w w' := by
 have hb0 : Below w.heap.size w (w.alloc (.cells #[.slice a 0 c, .int .i64 clk, .int .i64 rm] 24)) := (Below.refl _ _).alloc (Nat.le_refl _) _
 go_enter Tryz.func6, Tryz.ntmps6
 go_wp2
 go_loopw [3, 4] (fun n i wr => i = .int .i64 0 ∧ n = .int .i64 0 ∧ wr = w.alloc (.cells #[.slice a 0 c, .int .i64 clk, .int .i64 rm] 24)) (fun _ _ _ => 0)
 case atStart => exact ⟨rfl, rfl, rfl⟩
 case round =>
  obtain ⟨rfl, rfl, rfl⟩ := hrel
  go_wp2
  go_ret
  exact ⟨rfl, hb0⟩
theorem Big_any (v : Value) (ns : List Nv) (clk rm : Int) (w : World) (h : Nodes w v ns) (hlim : ∀ n ∈ ns, Lim n) (hml : ns.length ≤ 140737488355328) :
  Calls Tryz.prog 6 #[.agg #[v, .int .i64 clk, .int .i64 rm]] w fun r w' => Told r (ns.length ≤ 1100 ∧ ∀ n ∈ ns, Sml n) ∧ Below w.heap.size w w' := by
 rcases h with ⟨⟨a, c, rfl⟩, rfl⟩ | ⟨g, o, cap, rfl, h0, h1, h2⟩
 ·exact (big_nil a c clk rm w).mono fun r w' ⟨hr, hb⟩ => ⟨⟨false, hr, fun _ => ⟨by simp, fun n hn => by cases hn⟩⟩, hb⟩
 ·exact big_row g o cap ns clk rm w h1 h2 hlim h0 hml
end Go.Proofs.YtabmnkddmdffkaaGreatDoor
