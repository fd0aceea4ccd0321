/- The contracts of anvillaw5.Big and anvillaw5.Much. The contract of anvilref5.Same. The contracts of anvillaw5's num and Small. The contract of anvillaw5's alive. What the laws' walks share: a file system's blocks lie below the heap's end; a tree that is refused has a number. -/
import Derived.Test.YtpbfhbnkalambaaGreatDoorZy
import Derived.Lib.SlBytesRow
import Derived.Lib.BufferRead
import Derived.Test.YtpbfhbnkalambaaGreatDoorZl
import Derived.Lib.SlBytesConst
import Derived.Deep.CutBlock
namespace Go.Proofs.YtpbfhbnkalambaaGreatDoor
open Go.RowKit Go.Maps

/-- an answer that tells something if it is false -/
def Told (r : Ending) (p : Prop) : Prop := ∃ b, r = .returned (.bool b) ∧ (b = false → p)
theorem Told.yes (p : Prop) : Told (.returned (.bool true)) p := ⟨true, rfl, fun e => by cases e⟩
theorem Told.no {p : Prop} (h : p) : Told (.returned (.bool false)) p := ⟨false, rfl, fun _ => h⟩
def Lim (n : Nv) : Prop := n.path.length ≤ 140737488355328 ∧ n.nd.data.length ≤ 140737488355328
def Sml (n : Nv) : Prop := n.path.length ≤ 300000 ∧ n.nd.data.length ≤ 300000
set_option maxRecDepth 100000 in
set_option maxHeartbeats 4000000 in
theorem big_row (g o cap : Nat) (ns : List Nv) (clk rm : Int) (w : World) (h : NRow w g o ns) (hr : ∀ n ∈ ns, Rds w n.dv n.nd.data) (hlim : ∀ n ∈ ns, Lim n) (_hc : ns.length ≤ cap) (hml : ns.length ≤ 140737488355328) :
    Calls Tryz.prog 8 #[.agg #[.slice (some ⟨g, o, none⟩) ns.length cap, .int .i64 clk, .int .i64 rm]] w fun r w' => Told r (ns.length ≤ 1100 ∧ ∀ n ∈ ns, Sml n) ∧ Below w.heap.size w w' := by
  have hb0 : Below w.heap.size w (w.alloc (.cells #[.slice (some ⟨g, o, none⟩) ns.length cap, .int .i64 clk, .int .i64 rm] 24)) := (Below.refl _ _).alloc (Nat.le_refl _) _
  have z1 := alloc_new w (.cells #[.slice (some ⟨g, o, none⟩) ns.length cap, .int .i64 clk, .int .i64 rm] 24)
  go_enter Tryz.func8, Tryz.ntmps8
  go_wp2
  obtain ⟨w0, hw0⟩ : ∃ w0, w0 = w.alloc (.cells #[.slice (some ⟨g, o, none⟩) ns.length cap, .int .i64 clk, .int .i64 rm] 24) := ⟨_, rfl⟩
  have hs0 : w0.heap.size = w.heap.size + 1 := by rw [hw0]; simp
  rw [← hw0] at hb0 z1 ⊢
  clear hw0
  go_loopw [3, 4] (fun n i wr => ∃ k s : Nat, k ≤ ns.length ∧ i = .int .i64 k ∧ n = .int .i64 s ∧ s ≤ 300000 + 1 + 140737488355328 + 140737488355328 ∧ (s ≤ 300000 → ∀ n ∈ ns.take k, Sml n) ∧ Below w0.heap.size w0 wr) (fun _ i _ => ns.length - (intOf i).toNat)
  case atStart => exact ⟨0, 0, by omega, rfl, rfl, by omega, fun _ n hn => by simp at hn, Below.refl _ _⟩
  case round =>
    obtain ⟨k, s, hk, rfl, rfl, hsb, hsm, hB⟩ := hrel
    have y1 := (hB.block _ (by omega)).trans z1
    have a0 : wr.cell? ⟨w.heap.size, 0, none⟩ = some (.slice (some ⟨g, o, none⟩) ns.length cap) := by rw [Lib.cell_of_heap y1]; rfl
    have hBw : Below w.heap.size w wr := hb0.trans (hB.mono (by omega))
    clear y1 z1
    by_cases hkl : k < ns.length
    · have k1 : (k : Int) < ns.length := by omega
      by_cases hs : s ≤ 300000
      · have k2 : (s : Int) ≤ 300000 := by omega
        obtain ⟨n, hn⟩ : ∃ n, ns[k]? = some n := ⟨_, List.getElem?_eq_getElem hkl⟩
        have hR := h.below hBw
        have d0 := hR.c0 k n hn
        have d3 := hR.c3 k n hn
        have hmem := List.mem_of_getElem? hn
        obtain ⟨da, dc, hdv⟩ := (hr n hmem).len
        rw [hdv] at d3
        obtain ⟨l1, l2⟩ := hlim n hmem
        have hz : (mk n.path).size = n.path.length := mk_size _
        have hst : s + 1 + n.path.length + n.nd.data.length ≤ 300000 → ∀ m ∈ ns.take (k + 1), Sml m := by
          intro hle m hm
          rw [List.take_add_one, hn] at hm
          rcases List.mem_append.1 hm with hm | hm
          · exact hsm hs m hm
          · have : m = n := by simpa using hm
            rw [this]; exact ⟨by omega, by omega⟩
        generalize hpl : n.path.length = pl at *
        generalize n.nd.data.length = dl at *
        generalize mk n.path = P at *
        have hBd : Below w0.heap.size w0 wr.drew := hB.drew
        clear hR h hr hlim hn hmem hsm
        go_wp2
        go_quiet (fail)
        go_wp2
        exact ⟨⟨k + 1, s + 1 + pl + dl, by omega, by simp, by simp, by omega, hst, hB.trans (below_drewn _)⟩, by simp [intOf]; omega⟩
      · have k2 : ¬ (s : Int) ≤ 300000 := by omega
        have k3 : 300000 < (s : Int) := by omega
        go_wp2
        go_ret
        exact ⟨Told.yes _, hBw⟩
    · obtain rfl : k = ns.length := by omega
      rw [List.take_length] at hsm
      have k1 : ¬ (ns.length : Int) < ns.length := by omega
      by_cases hs : s ≤ 300000
      · have k3 : ¬ 300000 < (s : Int) := by omega
        by_cases hl : ns.length ≤ 1100
        · have k4 : ¬ 1100 < (ns.length : Int) := by omega
          go_wp2
          go_ret
          exact ⟨Told.no (hsm hs), hBw⟩
        · have k4 : 1100 < (ns.length : Int) := by omega
          go_wp2
          go_ret
          exact ⟨Told.yes _, hBw⟩
      · have k3 : 300000 < (s : Int) := by omega
        go_wp2
        go_ret
        exact ⟨Told.yes _, hBw⟩
set_option maxRecDepth 100000 in
set_option maxHeartbeats 4000000 in
theorem big_nil (a : Option Addr) (c : Nat) (clk rm : Int) (w : World) :
    Calls Tryz.prog 8 #[.agg #[.slice a 0 c, .int .i64 clk, .int .i64 rm]] w fun r w' => r = .returned (.bool false) ∧ Below w.heap.size w w' := by
  have hb0 : Below w.heap.size w (w.alloc (.cells #[.slice a 0 c, .int .i64 clk, .int .i64 rm] 24)) := (Below.refl _ _).alloc (Nat.le_refl _) _
  go_enter Tryz.func8, Tryz.ntmps8
  go_wp2
  go_loopw [3, 4] (fun n i wr => i = .int .i64 0 ∧ n = .int .i64 0 ∧ wr = w.alloc (.cells #[.slice a 0 c, .int .i64 clk, .int .i64 rm] 24)) (fun _ _ _ => 0)
  case atStart => exact ⟨rfl, rfl, rfl⟩
  case round =>
    obtain ⟨rfl, rfl, rfl⟩ := hrel
    go_wp2
    go_ret
    exact ⟨rfl, hb0⟩
/-- Big -/
theorem Big_any (v : Value) (ns : List Nv) (clk rm : Int) (w : World) (h : Nodes w v ns) (hlim : ∀ n ∈ ns, Lim n) (hml : ns.length ≤ 140737488355328) :
    Calls Tryz.prog 8 #[.agg #[v, .int .i64 clk, .int .i64 rm]] w fun r w' => Told r (ns.length ≤ 1100 ∧ ∀ n ∈ ns, Sml n) ∧ Below w.heap.size w w' := by
  rcases h with ⟨⟨a, c, rfl⟩, rfl⟩ | ⟨g, o, cap, rfl, h0, h1, h2⟩
  · exact (big_nil a c clk rm w).mono fun r w' ⟨hr, hb⟩ => ⟨⟨false, hr, fun _ => ⟨by simp, fun n hn => by cases hn⟩⟩, hb⟩
  · exact big_row g o cap ns clk rm w h1 h2 hlim h0 hml

/-- a call, as it is handed in -/
structure Ov where
  kind : Int
  p : ByteArray
  q : ByteArray
  bv : Value
  b : Bs
structure ORow (w : World) (g o : Nat) (os : List Ov) : Prop where
  lt : os ≠ [] → g < w.heap.size
  c0 : ∀ i n, os[i]? = some n → w.cell? ⟨g, o + i * 4, none⟩ = some (.int .i64 n.kind)
  c1 : ∀ i n, os[i]? = some n → w.cell? ⟨g, o + i * 4 + 1, none⟩ = some (.string n.p)
  c2 : ∀ i n, os[i]? = some n → w.cell? ⟨g, o + i * 4 + 2, none⟩ = some (.string n.q)
  c3 : ∀ i n, os[i]? = some n → w.cell? ⟨g, o + i * 4 + 3, none⟩ = some n.bv
def OpsAt (w : World) (v : Value) (os : List Ov) : Prop :=
  ((∃ a cap, v = .slice a 0 cap) ∧ os = []) ∨ ∃ g o cap, v = .slice (some ⟨g, o, none⟩) os.length cap ∧ os.length ≤ cap ∧ ORow w g o os ∧ ∀ n ∈ os, Rds w n.bv n.b
theorem ORow.below {w w' : World} {g o : Nat} {os : List Ov} (h : ORow w g o os) (hb : Below w.heap.size w w') : ORow w' g o os := by
  have lt : ∀ {i : Nat} {n : Ov}, os[i]? = some n → g < w.heap.size := fun {i n} hi => h.lt fun e => by rw [e] at hi; simp at hi
  exact ⟨fun hne => Nat.lt_of_lt_of_le (h.lt hne) hb.size, fun i n hi => (hb.cell (p := ⟨g, _, none⟩) (lt hi)).trans (h.c0 i n hi), fun i n hi => (hb.cell (p := ⟨g, _, none⟩) (lt hi)).trans (h.c1 i n hi),
    fun i n hi => (hb.cell (p := ⟨g, _, none⟩) (lt hi)).trans (h.c2 i n hi), fun i n hi => (hb.cell (p := ⟨g, _, none⟩) (lt hi)).trans (h.c3 i n hi)⟩
theorem OpsAt.below {w w' : World} {v : Value} {os : List Ov} (h : OpsAt w v os) (hb : Below w.heap.size w w') : OpsAt w' v os := by
  rcases h with ⟨⟨a, c, rfl⟩, rfl⟩ | ⟨g, o, cap, rfl, h0, h1, h2⟩
  · exact .inl ⟨⟨_, _, rfl⟩, rfl⟩
  · exact .inr ⟨g, o, cap, rfl, h0, h1.below hb, fun n hn => (h2 n hn).below hb⟩
theorem OpsAt.len {w : World} {v : Value} {os : List Ov} (h : OpsAt w v os) : ∃ a cap, v = .slice a os.length cap := by
  rcases h with ⟨⟨a, c, rfl⟩, rfl⟩ | ⟨g, o, cap, rfl, _⟩
  · exact ⟨_, _, rfl⟩
  · exact ⟨_, _, rfl⟩
def OLim (n : Ov) : Prop := n.p.size ≤ 140737488355328 ∧ n.q.size ≤ 140737488355328 ∧ n.b.length ≤ 140737488355328
def OSml (n : Ov) : Prop := n.p.size ≤ 200000 ∧ n.q.size ≤ 200000 ∧ n.b.length ≤ 200000
set_option maxRecDepth 100000 in
set_option maxHeartbeats 4000000 in
theorem much_row (g o cap : Nat) (os : List Ov) (w : World) (h : ORow w g o os) (hr : ∀ n ∈ os, Rds w n.bv n.b) (hlim : ∀ n ∈ os, OLim n) (_hc : os.length ≤ cap) (hml : os.length ≤ 140737488355328) :
    Calls Tryz.prog 17 #[.slice (some ⟨g, o, none⟩) os.length cap] w fun r w' => Told r (os.length ≤ 200 ∧ ∀ n ∈ os, OSml n) ∧ Below w.heap.size w w' := by
  go_enter Tryz.func17, Tryz.ntmps17
  go_wp2
  go_loopw [3, 4] (fun n i wr => ∃ k s : Nat, k ≤ os.length ∧ i = .int .i64 k ∧ n = .int .i64 s ∧ s ≤ 200000 + 1 + 140737488355328 + 140737488355328 + 140737488355328 ∧ (s ≤ 200000 → ∀ n ∈ os.take k, OSml n) ∧ Below w.heap.size w wr) (fun _ i _ => os.length - (intOf i).toNat)
  case atStart => exact ⟨0, 0, by omega, rfl, rfl, by omega, fun _ n hn => by simp at hn, Below.refl _ _⟩
  case round =>
    obtain ⟨k, s, hk, rfl, rfl, hsb, hsm, hB⟩ := hrel
    by_cases hkl : k < os.length
    · have k1 : (k : Int) < os.length := by omega
      by_cases hs : s ≤ 200000
      · have k2 : (s : Int) ≤ 200000 := by omega
        obtain ⟨n, hn⟩ : ∃ n, os[k]? = some n := ⟨_, List.getElem?_eq_getElem hkl⟩
        have hR := h.below hB
        have d1 := hR.c1 k n hn
        have d2 := hR.c2 k n hn
        have d3 := hR.c3 k n hn
        have hmem := List.mem_of_getElem? hn
        obtain ⟨da, dc, hdv⟩ := (hr n hmem).len
        rw [hdv] at d3
        obtain ⟨l1, l2, l3⟩ := hlim n hmem
        have hst : s + 1 + n.p.size + n.q.size + n.b.length ≤ 200000 → ∀ m ∈ os.take (k + 1), OSml m := by
          intro hle m hm
          rw [List.take_add_one, hn] at hm
          rcases List.mem_append.1 hm with hm | hm
          · exact hsm hs m hm
          · have : m = n := by simpa using hm
            rw [this]; exact ⟨by omega, by omega, by omega⟩
        obtain ⟨kd, P, Q, bv, b⟩ := n
        simp only at *
        generalize hpl : P.size = pl at *
        generalize hql : Q.size = ql at *
        generalize b.length = dl at *
        clear hR h hr hlim hn hmem hsm
        go_wp2
        go_quiet (fail)
        go_wp2
        exact ⟨⟨k + 1, s + 1 + pl + ql + dl, by omega, by simp, by simp, by omega, hst, hB.trans (below_drewn _)⟩, by simp [intOf]; omega⟩
      · have k2 : ¬ (s : Int) ≤ 200000 := by omega
        have k3 : 200000 < (s : Int) := by omega
        go_wp2
        go_ret
        exact ⟨Told.yes _, hB⟩
    · obtain rfl : k = os.length := by omega
      rw [List.take_length] at hsm
      have k1 : ¬ (os.length : Int) < os.length := by omega
      by_cases hs : s ≤ 200000
      · have k3 : ¬ 200000 < (s : Int) := by omega
        by_cases hl : os.length ≤ 200
        · have k4 : ¬ 200 < (os.length : Int) := by omega
          go_wp2
          go_ret
          exact ⟨Told.no (hsm hs), hB⟩
        · have k4 : 200 < (os.length : Int) := by omega
          go_wp2
          go_ret
          exact ⟨Told.yes _, hB⟩
      · have k3 : 200000 < (s : Int) := by omega
        go_wp2
        go_ret
        exact ⟨Told.yes _, hB⟩
set_option maxRecDepth 100000 in
set_option maxHeartbeats 4000000 in
theorem much_nil (a : Option Addr) (c : Nat) (w : World) : Calls Tryz.prog 17 #[.slice a 0 c] w fun r w' => r = .returned (.bool false) ∧ Below w.heap.size w w' := by
  go_enter Tryz.func17, Tryz.ntmps17
  go_wp2
  go_loopw [3, 4] (fun n i wr => i = .int .i64 0 ∧ n = .int .i64 0 ∧ wr = w) (fun _ _ _ => 0)
  case atStart => exact ⟨rfl, rfl, rfl⟩
  case round =>
    obtain ⟨rfl, rfl, rfl⟩ := hrel
    go_wp2
    go_ret
    exact ⟨rfl, Below.refl _ _⟩
/-- Much -/
theorem Much_any (v : Value) (os : List Ov) (w : World) (h : OpsAt w v os) (hlim : ∀ n ∈ os, OLim n) (hml : os.length ≤ 140737488355328) :
    Calls Tryz.prog 17 #[v] w fun r w' => Told r (os.length ≤ 200 ∧ ∀ n ∈ os, OSml n) ∧ Below w.heap.size w w' := by
  rcases h with ⟨⟨a, c, rfl⟩, rfl⟩ | ⟨g, o, cap, rfl, h0, h1, h2⟩
  · exact (much_nil a c w).mono fun r w' ⟨hr, hb⟩ => ⟨⟨false, hr, fun _ => ⟨by simp, fun n hn => by cases hn⟩⟩, hb⟩
  · exact much_row g o cap os w h1 h2 hlim h0 hml
end Go.Proofs.YtpbfhbnkalambaaGreatDoor
namespace Go.Proofs.YtpbfhbnkalambaaGreatDoor
open Go.RowKit Go.Maps

theorem cell_old {W : World} {a : Addr} {v : Value} (o : Obj) (h : W.cell? a = some v) : (W.alloc o).cell? a = some v := (((Below.refl W.heap.size W).alloc (Nat.le_refl _) o).cell (p := a) (World.block_lt_of_cell? _ _ h)).trans h
theorem nums_mk (bs : Bs) : strOfNums (bs.map fun x => (x.toNat : Int)) = mk bs := by
  apply ByteArray.ext
  apply Array.toList_inj.1
  rw [strOfNums_data, List.map_map]
  show _ = bs
  conv => rhs; rw [← List.map_id bs]
  apply List.map_congr_left
  intro x _
  simp
theorem rds_str {w : World} {v : Value} {bs : Bs} (h : Rds w v bs) : (convert 43 9 v).run Tryz.prog w = .ok (.string (mk bs)) w := by
  rcases h with ⟨rfl, rfl⟩ | ⟨a, cap, rfl, _, hc⟩
  · exact Lib.run_convert_nil_bytes w 43 9 5 0 Tryz.underlying43 Tryz.underlying5 Tryz.underlying9
  · have hx : Lib.byteCells bs = (bs.map fun x => (x.toNat : Int)).map (Value.int .u8) := by rw [List.map_map]; rfl
    have hl : (loadCells a bs.length).run Tryz.prog w = .ok ((bs.map fun x => (x.toNat : Int)).map (Value.int .u8)).toArray w := by
      have := run_loadCells_list (P := Tryz.prog) w a (Lib.byteCells bs) hc
      rw [Lib.byteCells_length, hx] at this
      exact this
    rw [run_convert_bytes_string w 43 9 5 _ bs.length cap Tryz.underlying43 Tryz.underlying5 Tryz.underlying9, run_bytesToString w _ bs.length cap _ hl, foldl_push_bytes, ← nums_mk]
    simp [strOfNums, ByteArray.empty, ByteArray.emptyWithCapacity]
    rfl
theorem toE_iff (a b : Nv) : toE a = toE b ↔ a.path = b.path ∧ a.nd.dir = b.nd.dir ∧ a.nd.time = b.nd.time ∧ a.nd.data = b.nd.data := by
  unfold toE
  obtain ⟨p, dv, d, t, x⟩ := a
  obtain ⟨p', dv', d', t', x'⟩ := b
  simp only [Prod.mk.injEq, Nd.mk.injEq]
theorem map_ne {ns ms : List Nv} {k : Nat} {n m : Nv} (hn : ns[k]? = some n) (hm : ms[k]? = some m) (h : ¬ toE n = toE m) : ¬ ns.map toE = ms.map toE := by
  intro e
  have := congrArg (·[k]?) e
  simp only [List.getElem?_map, hn, hm, Option.map_some, Option.some.injEq] at this
  exact h this
theorem map_step {ns ms : List Nv} {k : Nat} {n m : Nv} (hn : ns[k]? = some n) (hm : ms[k]? = some m) (h : (ns.take k).map toE = (ms.take k).map toE) (e : toE n = toE m) : (ns.take (k + 1)).map toE = (ms.take (k + 1)).map toE := by
  rw [List.take_add_one, List.take_add_one, List.map_append, List.map_append, h, hn, hm]
  simp [e]
set_option maxRecDepth 100000 in
set_option maxHeartbeats 4000000 in
theorem same_row (g o cap g' o' cap' : Nat) (ns ms : List Nv) (clk rm : Int) (w : World) (h : NRow w g o ns) (hr : ∀ n ∈ ns, Rds w n.dv n.nd.data) (h' : NRow w g' o' ms) (hr' : ∀ n ∈ ms, Rds w n.dv n.nd.data) (hl : ns.length = ms.length) (hml : ms.length ≤ 1000000) (_hc : ms.length ≤ cap) (_hc' : ms.length ≤ cap') :
    Calls Tryz.prog 16 #[.agg #[.slice (some ⟨g, o, none⟩) ms.length cap, .int .i64 clk, .int .i64 rm], .agg #[.slice (some ⟨g', o', none⟩) ms.length cap', .int .i64 clk, .int .i64 rm]] w fun r w' => (∃ b, r = .returned (.bool b) ∧ (b = true ↔ ns.map toE = ms.map toE)) ∧ Below w.heap.size w w' := by
  have hb0 : Below w.heap.size w ((w.alloc (.cells #[.slice (some ⟨g, o, none⟩) ms.length cap, .int .i64 clk, .int .i64 rm] 24)).alloc (.cells #[.slice (some ⟨g', o', none⟩) ms.length cap', .int .i64 clk, .int .i64 rm] 24)) := ((Below.refl _ _).alloc (Nat.le_refl _) _).alloc (by simp) _
  go_enter Tryz.func16, Tryz.ntmps16
  go_wp2
  have z1 := (Below.heap_alloc (w.alloc (.cells #[.slice (some ⟨g, o, none⟩) ms.length cap, .int .i64 clk, .int .i64 rm] 24)) (.cells #[.slice (some ⟨g', o', none⟩) ms.length cap', .int .i64 clk, .int .i64 rm] 24) w.heap.size (by simp)).trans (alloc_new w _)
  have z2 := alloc_new (w.alloc (.cells #[.slice (some ⟨g, o, none⟩) ms.length cap, .int .i64 clk, .int .i64 rm] 24)) (.cells #[.slice (some ⟨g', o', none⟩) ms.length cap', .int .i64 clk, .int .i64 rm] 24)
  rw [size_alloc'] at z2
  obtain ⟨w0, hw0⟩ : ∃ w0, w0 = ((w.alloc (.cells #[.slice (some ⟨g, o, none⟩) ms.length cap, .int .i64 clk, .int .i64 rm] 24)).alloc (.cells #[.slice (some ⟨g', o', none⟩) ms.length cap', .int .i64 clk, .int .i64 rm] 24)) := ⟨_, rfl⟩
  have hs0 : w0.heap.size = w.heap.size + 2 := by rw [hw0]; simp
  rw [← hw0] at hb0 z1 z2 ⊢
  clear hw0
  go_loopw [5] (fun i wr => ∃ k : Nat, k ≤ ms.length ∧ i = .int .i64 k ∧ (ns.take k).map toE = (ms.take k).map toE ∧ Below w0.heap.size w0 wr) (fun i _ => ms.length - (intOf i).toNat)
  case atStart => exact ⟨0, by omega, rfl, rfl, Below.refl _ _⟩
  case round =>
    obtain ⟨k, hk, rfl, hE, hB⟩ := hrel
    have y1 := (hB.block _ (by omega)).trans z1
    have y2 := (hB.block _ (by omega)).trans z2
    have a0 : wr.cell? ⟨w.heap.size, 0, none⟩ = some (.slice (some ⟨g, o, none⟩) ms.length cap) := by rw [Lib.cell_of_heap y1]; rfl
    have b0 : wr.cell? ⟨w.heap.size + 1, 0, none⟩ = some (.slice (some ⟨g', o', none⟩) ms.length cap') := by rw [Lib.cell_of_heap y2]; rfl
    have hBw : Below w.heap.size w wr := hb0.trans (hB.mono (by omega))
    have hsr := hB.size
    by_cases hkl : k < ms.length
    · obtain ⟨n, hn⟩ : ∃ n, ns[k]? = some n := ⟨_, List.getElem?_eq_getElem (by omega)⟩
      obtain ⟨m, hm⟩ : ∃ m, ms[k]? = some m := ⟨_, List.getElem?_eq_getElem hkl⟩
      have hR := h.below hBw
      have hR' := h'.below hBw
      have d0 := hR.c0 k n hn
      have d1 := hR.c1 k n hn
      have d2 := hR.c2 k n hn
      have d3 := hR.c3 k n hn
      have e0 := hR'.c0 k m hm
      have e1 := hR'.c1 k m hm
      have e2 := hR'.c2 k m hm
      have e3 := hR'.c3 k m hm
      have hrn := (hr n (List.mem_of_getElem? hn)).below hBw
      have hrm := (hr' m (List.mem_of_getElem? hm)).below hBw
      obtain ⟨da, dc, hdv⟩ := hrn.len
      obtain ⟨ea, ec, hev⟩ := hrm.len
      rw [hdv] at d3 hrn
      rw [hev] at e3 hrm
      have k2 : (k : Int) < ms.length := by omega
      have hne := map_ne hn hm
      have hst := map_step hn hm hE
      rw [toE_iff] at hne hst
      obtain ⟨p, dv, d, t, x⟩ := n
      obtain ⟨p', dv', d', t', x'⟩ := m
      simp only at *
      have hBa : ∀ o1 o2 : Obj, Below wr.heap.size wr ((wr.alloc o1).alloc o2) := fun o1 o2 => ((Below.refl _ _).alloc (Nat.le_refl _) _).alloc (by simp) _
      have hBz : ∀ o1 o2 : Obj, Below w0.heap.size w0 ((wr.alloc o1).alloc o2) := fun o1 o2 => hB.trans ((hBa o1 o2).mono hsr)
      have hcx := fun o1 o2 => rds_str (hrn.below (hBa o1 o2))
      have hcy := fun o1 o2 => rds_str (hrm.below (hBa o1 o2))
      have b0' := fun o => cell_old (W := wr) o b0
      have e0' := fun o => cell_old (W := wr) o e0
      have e1' := fun o => cell_old (W := wr) o e1
      have e2' := fun o => cell_old (W := wr) o e2
      have e3' := fun o => cell_old (W := wr) o e3
      clear hR hR' h h' hr hr' hrn hrm hn hm hB y1 y2
      go_wp2
      · rename_i _ _ _ hx
        have hbad := hne (fun e => by rw [e.2.2.2] at hx; simp at hx)
        go_ret
        exact ⟨⟨false, rfl, by simp [hbad]⟩, hb0.trans ((hBz _ _).mono (by omega))⟩
      · rename_i h1 h2 h3 hx
        have h4 : x = x' := by simpa using hx
        exact ⟨⟨k + 1, by omega, by simp, hst ⟨h1, h2, h3, h4⟩, hBz _ _⟩, by simp [intOf]; omega⟩
      · rename_i _ _ hx
        have hbad := hne (fun e => by rw [e.2.2.1] at hx; simp at hx)
        go_ret
        exact ⟨⟨false, rfl, by simp [hbad]⟩, hb0.trans ((hBz _ _).mono (by omega))⟩
      · rename_i _ hx
        have hbad := hne (fun e => by rw [e.2.1] at hx; simp at hx)
        go_ret
        exact ⟨⟨false, rfl, by simp [hbad]⟩, hb0.trans ((hBz _ _).mono (by omega))⟩
      · rename_i hx
        have hbad := hne (fun e => by rw [e.1] at hx; simp at hx)
        go_ret
        exact ⟨⟨false, rfl, by simp [hbad]⟩, hb0.trans ((hBz _ _).mono (by omega))⟩
    · obtain rfl : k = ms.length := by omega
      rw [List.take_length, ← hl, List.take_length] at hE
      go_wp2
      go_ret
      exact ⟨⟨true, rfl, by simp [hE]⟩, hBw⟩
set_option maxRecDepth 100000 in
set_option maxHeartbeats 4000000 in
theorem same_nil (a a' : Option Addr) (cap cap' : Nat) (clk rm : Int) (w : World) :
    Calls Tryz.prog 16 #[.agg #[.slice a 0 cap, .int .i64 clk, .int .i64 rm], .agg #[.slice a' 0 cap', .int .i64 clk, .int .i64 rm]] w fun r w' => r = .returned (.bool true) ∧ Below w.heap.size w w' := by
  have hb0 : Below w.heap.size w ((w.alloc (.cells #[.slice a 0 cap, .int .i64 clk, .int .i64 rm] 24)).alloc (.cells #[.slice a' 0 cap', .int .i64 clk, .int .i64 rm] 24)) := ((Below.refl _ _).alloc (Nat.le_refl _) _).alloc (by simp) _
  go_enter Tryz.func16, Tryz.ntmps16
  go_wp2
  go_loopw [5] (fun i wr => i = .int .i64 0 ∧ wr = ((w.alloc (.cells #[.slice a 0 cap, .int .i64 clk, .int .i64 rm] 24)).alloc (.cells #[.slice a' 0 cap', .int .i64 clk, .int .i64 rm] 24))) (fun _ _ => 0)
  case atStart => exact ⟨rfl, rfl⟩
  case round =>
    obtain ⟨rfl, rfl⟩ := hrel
    go_wp2
    go_ret
    exact ⟨rfl, hb0⟩
set_option maxRecDepth 100000 in
set_option maxHeartbeats 4000000 in
/-- clock, room or the number of nodes are not one -/
theorem same_no (a a' : Option Addr) (n n' cap cap' : Nat) (clk rm clk' rm' : Int) (w : World) (h : ¬ (clk = clk' ∧ rm = rm' ∧ n = n')) :
    Calls Tryz.prog 16 #[.agg #[.slice a n cap, .int .i64 clk, .int .i64 rm], .agg #[.slice a' n' cap', .int .i64 clk', .int .i64 rm']] w fun r w' => r = .returned (.bool false) ∧ Below w.heap.size w w' := by
  have hb0 : Below w.heap.size w ((w.alloc (.cells #[.slice a n cap, .int .i64 clk, .int .i64 rm] 24)).alloc (.cells #[.slice a' n' cap', .int .i64 clk', .int .i64 rm'] 24)) := ((Below.refl _ _).alloc (Nat.le_refl _) _).alloc (by simp) _
  by_cases h1 : clk = clk'
  · by_cases h2 : rm = rm'
    · subst h1; subst h2
      have h3 : ¬ n = n' := fun e => h ⟨rfl, rfl, e⟩
      have h4 : ((n : Int) == (n' : Int)) = false := beq_eq_false_iff_ne.2 (by omega)
      have h5 : ¬ (n : Int) = (n' : Int) := by omega
      go_enter Tryz.func16, Tryz.ntmps16
      go_wp2
      go_ret
      exact ⟨rfl, hb0⟩
    · subst h1
      have h4 : (rm == rm') = false := beq_eq_false_iff_ne.2 h2
      go_enter Tryz.func16, Tryz.ntmps16
      go_wp2
      go_ret
      exact ⟨rfl, hb0⟩
  · have h4 : (clk == clk') = false := beq_eq_false_iff_ne.2 h1
    go_enter Tryz.func16, Tryz.ntmps16
    go_wp2
    go_ret
    exact ⟨rfl, hb0⟩
/-- Same -/
theorem Same_any (v v' : Value) (ns ms : List Nv) (clk rm clk' rm' : Int) (w : World) (h : Nodes w v ns) (h' : Nodes w v' ms) (hml : ms.length ≤ 1000000) :
    Calls Tryz.prog 16 #[.agg #[v, .int .i64 clk, .int .i64 rm], .agg #[v', .int .i64 clk', .int .i64 rm']] w fun r w' => (∃ b, r = .returned (.bool b) ∧ (b = true ↔ clk = clk' ∧ rm = rm' ∧ ns.map toE = ms.map toE)) ∧ Below w.heap.size w w' := by
  by_cases hc : clk = clk' ∧ rm = rm' ∧ ns.length = ms.length
  · obtain ⟨rfl, rfl, hl⟩ := hc
    rcases h' with ⟨⟨a', c', rfl⟩, rfl⟩ | ⟨g', o', cap', rfl, h0', h1', h2'⟩
    · obtain rfl : ns = [] := List.length_eq_zero_iff.1 hl
      obtain ⟨a, c, rfl⟩ := h.len
      exact (same_nil a a' c c' clk rm w).mono fun r w' ⟨hr, hb⟩ => ⟨⟨true, hr, by simp⟩, hb⟩
    · rcases h with ⟨⟨a, c, rfl⟩, rfl⟩ | ⟨g, o, cap, rfl, h0, h1, h2⟩
      · obtain rfl : ms = [] := List.length_eq_zero_iff.1 hl.symm
        exact (same_nil a _ c cap' clk rm w).mono fun r w' ⟨hr, hb⟩ => ⟨⟨true, hr, by simp⟩, hb⟩
      · rw [hl] at h0 ⊢
        exact (same_row g o cap g' o' cap' ns ms clk rm w h1 h2 h1' h2' hl hml h0 h0').mono fun r w' ⟨⟨b, hr, hb1⟩, hb⟩ => ⟨⟨b, hr, by rw [hb1]; simp⟩, hb⟩
  · obtain ⟨a, c, rfl⟩ := h.len
    obtain ⟨a', c', rfl⟩ := h'.len
    refine (same_no a a' ns.length ms.length c c' clk rm clk' rm' w hc).mono fun r w' ⟨hr, hb⟩ => ⟨⟨false, hr, ?_⟩, hb⟩
    constructor
    · intro e; cases e
    · rintro ⟨e1, e2, e3⟩
      exact absurd ⟨e1, e2, by have := congrArg List.length e3; simpa using this⟩ hc
end Go.Proofs.YtpbfhbnkalambaaGreatDoor
namespace Go.Proofs.YtpbfhbnkalambaaGreatDoor
open Go.RowKit Go.Maps

theorem num_any (n : Int) (w : World) : Calls Tryz.prog 13 #[.int .i64 n] w fun r w' => r = .returned (.int .i64 n) ∧ w' = w := by
  go_enter Tryz.func13, Tryz.ntmps13
  go_wp2
  go_ret
  exact ⟨rfl, rfl⟩
theorem three_alloc (w : World) (o1 o2 o3 : Obj) : (((w.alloc o1).alloc o2).alloc o3).heap[w.heap.size]? = some o1 ∧ (((w.alloc o1).alloc o2).alloc o3).heap[w.heap.size + 1]? = some o2 ∧ (((w.alloc o1).alloc o2).alloc o3).heap[w.heap.size + 1 + 1]? = some o3 := by
  refine ⟨?_, ?_, ?_⟩
  · exact (Below.heap_alloc _ _ _ (by simp; omega)).trans ((Below.heap_alloc _ _ _ (by simp)).trans (alloc_new w o1))
  · have q := alloc_new (w.alloc o1) o2
    rw [size_alloc'] at q
    exact (Below.heap_alloc _ _ _ (by simp)).trans q
  · have q := alloc_new ((w.alloc o1).alloc o2) o3
    rw [size_alloc', size_alloc'] at q
    exact q
def smallNs (b : Nat) : List Nv := [⟨[100], .slice none 0 0, ⟨true, 1, []⟩⟩, ⟨[100, 47, 120], .slice (some ⟨b, 0, none⟩) 2 2, ⟨false, 2, [104, 105]⟩⟩]
set_option maxHeartbeats 1000000 in
set_option maxRecDepth 100000 in
theorem res28 (tmps : Array Value) (b : Nat) (x y z : Value) (W : World) (h4 : tmps.getD 0 undef = .pointer (some ⟨b, 0, none⟩)) (hb : W.heap[b]? = some (.cells #[x, y, z] 24 (0, 0))) : (results Tryz.f28 tmps).run Tryz.prog W = .ok (.agg #[x, y, z]) W := by
  simp only [Array.getD_eq_getD_getElem?] at h4
  have c0 : W.cell? ⟨b, 0, none⟩ = some x := by rw [Lib.cell_of_heap hb]; rfl
  have c1 : W.cell? ⟨b, 1, none⟩ = some y := by rw [Lib.cell_of_heap hb]; rfl
  have c2 : W.cell? ⟨b, 2, none⟩ = some z := by rw [Lib.cell_of_heap hb]; rfl
  simp [results, Tryz.results28, go_sem, h4, c0, c1, c2]
theorem small_nodes {W : World} {b g : Nat} (hD : W.heap[b]? = some (.cells #[.int .u8 104, .int .u8 105] 5 (2, 3)))
    (hN : W.heap[g]? = some (.cells #[.string { data := #[100] }, .bool true, .int .i64 1, .slice none 0 0, .string { data := #[100, 47, 120] }, .bool false, .int .i64 2, .slice (some ⟨b, 0, none⟩) 2 2] 55 (0, 0))) : Nodes W (.slice (some ⟨g, 0, none⟩) 2 2) (smallNs b) := by
  refine .inr ⟨g, 0, 2, rfl, Nat.le_refl _, ⟨lt_of_block hN, fun i n hi => ?_, fun i n hi => ?_, fun i n hi => ?_, fun i n hi => ?_⟩, fun n hn => ?_⟩
  · rcases i with _ | _ | i
    · cases hi; rw [Lib.cell_of_heap hN]; rfl
    · cases hi; rw [Lib.cell_of_heap hN]; rfl
    · simp [smallNs] at hi
  · rcases i with _ | _ | i
    · cases hi; rw [Lib.cell_of_heap hN]; rfl
    · cases hi; rw [Lib.cell_of_heap hN]; rfl
    · simp [smallNs] at hi
  · rcases i with _ | _ | i
    · cases hi; rw [Lib.cell_of_heap hN]; rfl
    · cases hi; rw [Lib.cell_of_heap hN]; rfl
    · simp [smallNs] at hi
  · rcases i with _ | _ | i
    · cases hi; rw [Lib.cell_of_heap hN]; rfl
    · cases hi; rw [Lib.cell_of_heap hN]; rfl
    · simp [smallNs] at hi
  · simp only [smallNs, List.mem_cons, List.not_mem_nil, or_false] at hn
    rcases hn with rfl | rfl
    · exact .inl ⟨rfl, rfl⟩
    · refine .inr ⟨⟨b, 0, none⟩, 2, rfl, fun _ => lt_of_block hD, fun j u hj => ?_⟩
      rw [add_zero]
      rcases j with _ | _ | j
      · cases hj; rw [Lib.cell_of_heap hD]; rfl
      · cases hj; rw [Lib.cell_of_heap hD]; rfl
      · simp [Lib.byteCells] at hj
set_option maxRecDepth 100000 in
set_option maxHeartbeats 1000000 in
theorem Small_any (w : World) : Calls Tryz.prog 28 #[] w fun r w' => (∃ b v, r = .returned (.agg #[v, .int .i64 5, .int .i64 10]) ∧ Nodes w' v (smallNs b)) ∧ Below w.heap.size w w' := by
  have hcv := Lib.run_convert_bytes_const (P := Tryz.prog) (w.alloc (.cells #[.slice none 0 0, .int .i64 0, .int .i64 0] 24)) 43 5 #[.int .u8 104, .int .u8 105] 2 2 Tryz.underlying43 Tryz.underlying5
  simp only [size_alloc'] at hcv
  go_enter Tryz.func28, Tryz.ntmps28
  go_wp2
  obtain ⟨a1, a2, a3⟩ := three_alloc w (.cells #[.slice (some ⟨w.heap.size + 1 + 1, 0, none⟩) 2 2, .int .i64 5, .int .i64 10] 24) (.cells #[.int .u8 104, .int .u8 105] 5 (2, 3)) (.cells #[.string { data := #[100] }, .bool true, .int .i64 1, .slice none 0 0, .string { data := #[100, 47, 120] }, .bool false, .int .i64 2, .slice (some ⟨w.heap.size + 1, 0, none⟩) 2 2] 55)
  refine bodyPost_ret (res28 _ _ _ _ _ _ rfl a1) rfl ?_
  exact ⟨⟨_, _, rfl, small_nodes a2 a3⟩, (((Below.refl _ _).alloc (Nat.le_refl _) _).alloc (by simp) _).alloc (by simp; omega) _⟩
end Go.Proofs.YtpbfhbnkalambaaGreatDoor
namespace Go.Proofs.YtpbfhbnkalambaaGreatDoor
open Go.RowKit Go.Maps

def tr0 : Tr := [([100], ⟨true, 1, []⟩), ([100, 47, 120], ⟨false, 2, [104, 105]⟩)]
def tr1 : Tr := [([100], ⟨true, 1, []⟩), ([100, 47, 120], ⟨false, 2, [104, 105]⟩), ([100, 47, 121], ⟨false, 6, [97, 98, 99, 100, 101]⟩)]
theorem small_new (b : Nat) : newR (smallNs b) 5 10 = .inr tr0 := by kernel_rfl
theorem small_write : writeR tr0 5 10 (clean (tl { data := #[100, 47, 121] })) [97, 98, 99, 100, 101] false = (0, tr1, 6) := by kernel_rfl
theorem small_full : writeR tr1 6 10 (clean (tl { data := #[122] })) [] false = (15, tr1, 6) := by kernel_rfl
theorem small_filled : removeR tr1 6 (clean (tl { data := #[100] })) = (14, tr1, 6) := by kernel_rfl
theorem small_stat : statR tr1 (clean (tl { data := #[100, 47, 121] })) = (1, 6, 5) := by kernel_rfl
/-- a call's answer, with the blocks named anew -/
theorem NumAt.from {S : Nat → Prop} {A : Nat} {rm : Int} {w w' : World} {r : Ending} {o : Out} {N : Nat} (h : NumAt S A rm w r w' o) (hS : ∀ i, S i ↔ N ≤ i) (hN : N ≤ w.heap.size) : r = .returned (.int .i64 (o.1 : Nat)) ∧ IsFs w' (fun i => N ≤ i) A o.2.1 o.2.2 rm ∧ Below N w w' := by
  obtain ⟨h1, S', h2, h3, h4⟩ := h
  exact ⟨h1, h2.mono fun i hi => (h4 i hi).elim (fun q => (hS i).1 q) (fun q => Nat.le_trans hN q), h3.below hN fun i hi => (hS i).1 hi⟩
theorem eq_stat (w : World) : (binOp .eql 51 (.agg #[.int .i64 1, .int .i64 6, .int .i64 5]) (.agg #[.int .i64 1, .int .i64 6, .int .i64 5])).run Tryz.prog w = .ok (.bool true) w := by kernel_rfl
theorem eq_fs_nil (b : Nat) (w : World) : (binOp .eql 28 (.pointer (some ⟨b, 0, none⟩)) (.pointer none)).run Tryz.prog w = .ok (.bool false) w := by kernel_rfl
theorem word_rds {W : World} {b : Nat} (hD : W.heap[b]? = some (.cells #[.int .u8 97, .int .u8 98, .int .u8 99, .int .u8 100, .int .u8 101] 5 (5, 6))) : Rds W (.slice (some ⟨b, 0, none⟩) 5 5) [97, 98, 99, 100, 101] := by
  refine .inr ⟨⟨b, 0, none⟩, 5, rfl, fun _ => lt_of_block hD, fun j u hj => ?_⟩
  rw [add_zero]
  rcases j with _ | _ | _ | _ | _ | j
  · cases hj; rw [Lib.cell_of_heap hD]; rfl
  · cases hj; rw [Lib.cell_of_heap hD]; rfl
  · cases hj; rw [Lib.cell_of_heap hD]; rfl
  · cases hj; rw [Lib.cell_of_heap hD]; rfl
  · cases hj; rw [Lib.cell_of_heap hD]; rfl
  · simp [Lib.byteCells] at hj
set_option maxRecDepth 100000 in
set_option maxHeartbeats 2000000 in
theorem alive_any (B : Nat) (E : Addr) (w : World) (hG : Glo B w E) (hB : B ≤ w.heap.size) : Calls Tryz.prog 7 #[] w fun r w' => r = .returned (.bool true) ∧ Below w.heap.size w w' := by
  go_enter Tryz.func7, Tryz.ntmps7
  go_wp2_with fail
  refine (Small_any _).mono ?_
  rintro r w1 ⟨⟨b, v, rfl, hv⟩, hb1⟩
  have q1 := New_any B E v (smallNs b) 5 10 w1 hv (hG.keep (hb1.mono hB)) (Nat.le_trans hB hb1.size) (by intro n hn; simp only [smallNs, List.mem_cons, List.not_mem_nil, or_false] at hn; rcases hn with rfl | rfl <;> simp)
  rw [small_new] at q1
  obtain ⟨va, vc, hve⟩ := hv.len
  subst hve
  go_wp2_with fail
  refine q1.mono ?_
  rintro r w2 ⟨hb2, A, rfl, hf2⟩
  have hB2 := hb1.trans (hb2.mono hb1.size)
  have hf2 := hf2.mono (S' := fun i => w.heap.size ≤ i) fun i hi => Nat.le_trans hb1.size hi
  have he := fun w => eq_fs_nil A w
  go_wp2_with fail
  refine (num_any 0 _).mono ?_
  rintro r w3 ⟨rfl, rfl⟩
  have hcv := Lib.run_convert_bytes_const (P := Tryz.prog) w3 43 5 #[.int .u8 97, .int .u8 98, .int .u8 99, .int .u8 100, .int .u8 101] 5 5 Tryz.underlying43 Tryz.underlying5
  have hb3 : Below w3.heap.size w3 (w3.alloc (.cells #[.int .u8 97, .int .u8 98, .int .u8 99, .int .u8 100, .int .u8 101] 5 (5, 6))) := (Below.refl _ _).alloc (Nat.le_refl _) _
  have hB3 := hB2.trans (hb3.mono hB2.size)
  have q2 := Write_any B A E tr0 5 10 { data := #[100, 47, 121] } [97, 98, 99, 100, 101] (.slice (some ⟨w3.heap.size, 0, none⟩) 5 5) false _ _ (hf2.below hb3) (hG.keep (hB3.mono hB)) (Nat.le_trans hB hB3.size) (fun i hi => Nat.le_trans hB hi) (by omega) (by decide) (word_rds (alloc_new _ _)) (by decide)
  rw [small_write] at q2
  go_wp2_with fail
  refine q2.mono ?_
  intro r w4 hr
  obtain ⟨rfl, hf4, hb4⟩ := hr.from (fun i => Iff.rfl) hB3.size
  have hB4 := hB3.trans hb4
  have q3 := Write_any B A E tr1 6 10 { data := #[122] } [] (.slice none 0 0) false _ _ hf4 (hG.keep (hB4.mono hB)) (Nat.le_trans hB hB4.size) (fun i hi => Nat.le_trans hB hi) (by omega) (by decide) (.inl ⟨rfl, rfl⟩) (by decide)
  rw [small_full] at q3
  go_wp2_with fail
  refine q3.mono ?_
  intro r w5 hr
  obtain ⟨rfl, hf5, hb5⟩ := hr.from (fun i => Iff.rfl) hB4.size
  have hB5 := hB4.trans hb5
  have q4 := Remove_any B A E tr1 6 10 { data := #[100] } _ _ hf5 (hG.keep (hB5.mono hB)) (Nat.le_trans hB hB5.size) (fun i hi => Nat.le_trans hB hi) (by omega) (by decide)
  rw [small_filled] at q4
  go_wp2_with fail
  refine q4.mono ?_
  intro r w6 hr
  obtain ⟨rfl, hf6, hb6⟩ := hr.from (fun i => Iff.rfl) hB5.size
  have hB6 := hB5.trans hb6
  have q5 := Stat_any B A E tr1 6 10 { data := #[100, 47, 121] } _ _ hf6 (hG.keep (hB6.mono hB)) (Nat.le_trans hB hB6.size) (by decide)
  rw [small_stat] at q5
  have hes := eq_stat
  go_wp2_with fail
  refine (num_any _ _).mono ?_
  rintro r w7 ⟨rfl, rfl⟩
  go_wp2_with fail
  refine (num_any _ _).mono ?_
  rintro r w8 ⟨rfl, rfl⟩
  go_wp2_with fail
  refine (num_any _ _).mono ?_
  rintro r w9 ⟨rfl, rfl⟩
  go_wp2_with fail
  refine q5.mono ?_
  rintro r w10 ⟨rfl, hb10⟩
  unfold statV
  go_wp2
  go_ret
  exact ⟨rfl, hB6.trans (hb10.mono hB6.size)⟩
end Go.Proofs.YtpbfhbnkalambaaGreatDoor
namespace Go.Proofs.YtpbfhbnkalambaaGreatDoor
open Go.RowKit Go.Maps

theorem IsFs.shrink {w : World} {S : Nat → Prop} {A : Nat} {T : Tr} {clk rm : Int} (h : IsFs w S A T clk rm) : IsFs w (fun i => S i ∧ i < w.heap.size) A T clk rm := by
  obtain ⟨⟨M, L, hF, hO, hL⟩, a, b, c, d⟩ := h
  exact ⟨⟨M, L, hF, ⟨⟨hO.sA, hF.fb.lt⟩, ⟨hO.sM, hF.mp.lt⟩, fun e he => ⟨hO.sB e he, (hF.nodes e he).lt⟩, fun e he g hg => ⟨hO.sD e he g hg, (hO.dat e he).lt g hg⟩, hO.dat, hO.apB, hO.apD⟩, hL⟩, a, b, c, d⟩
theorem newR_num {ns : List Nv} {clk rm : Int} {k : Er} (h : newR ns clk rm = .inl k) : k.num ≠ 0 := by
  unfold newR at h
  have hl : lenR ns = .ok ∨ lenR ns = .no 2 := by unfold lenR; split <;> simp
  rcases hl with e | e
  · rw [e] at h
    simp only at h
    split at h
    · cases hp : plantR clk ns with
      | none => rw [hp] at h; cases h; simp [Er.num]
      | some st =>
        rw [hp] at h
        simp only at h
        split at h
        · cases h; simp [Er.num]
        · cases h
    · cases h; simp [Er.num]
  · rw [e] at h
    simp only at h
    cases h; simp [Er.num]
end Go.Proofs.YtpbfhbnkalambaaGreatDoor
