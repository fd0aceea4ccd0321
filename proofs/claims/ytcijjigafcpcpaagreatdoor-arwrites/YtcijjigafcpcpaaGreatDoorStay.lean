/- The contract of anvillaw7.stay at lent members that are as they were. -/
import Derived.Test.YtcijjigafcpcpaaGreatDoorLent
import Derived.Test.YtcijjigafcpcpaaGreatDoorSame
namespace Go.Proofs.YtcijjigafcpcpaaGreatDoor
open Go.RowKit Go.Maps

theorem LDat.lt {w : World} {b0 : Nat} {m : Mv} (h : LDat w b0 m) : ∃ g cap cur, m.dv = .slice (some ⟨g, 0, none⟩) m.data.length cap ∧ b0 ≤ g ∧ w.heap[g]? = some (.cells cur 5 (0, 0)) ∧ m.data.length + 1 ≤ cap ∧ cap ≤ cur.size ∧ cap ≤ maxLen ∧ cur.toList.take (m.data.length + 1) = Lib.byteCells (m.data ++ [167]) := by
  obtain ⟨g, cap, h1, h2, h3⟩ := h
  rcases h3 with ⟨e, _⟩ | ⟨g', cap', cur, e, h4, h5, h6, h7, h8⟩
  · cases e
  · have hlen : (m.data ++ [167]).length = m.data.length + 1 := by simp
    rw [hlen] at e h5 h8
    cases e
    exact ⟨g, cap, cur, h1, h2, h4, h5, h6, h7, h8⟩
theorem ldat_cell {w : World} {m : Mv} {g : Nat} {cur : Array Value} (h4 : w.heap[g]? = some (.cells cur 5 (0, 0))) (h8 : cur.toList.take (m.data.length + 1) = Lib.byteCells (m.data ++ [167])) {j : Nat} {x : UInt8} (hj : (m.data ++ [167])[j]? = some x) : w.cell? ⟨g, j, none⟩ = some (.int .u8 (x.toNat : Nat)) := by
  have hjl : j < m.data.length + 1 := by
    have := (List.getElem?_eq_some_iff.1 hj).1
    simpa using this
  have e : (Lib.byteCells (m.data ++ [167]))[j]? = some (.int .u8 (x.toNat : Nat)) := by
    unfold Lib.byteCells
    rw [List.getElem?_map, hj]
    rfl
  rw [← h8, List.getElem?_take_of_lt hjl] at e
  rw [Lib.cell_of_heap h4]
  simpa using e
theorem LDat.rds {w : World} {b0 : Nat} {m : Mv} (h : LDat w b0 m) : Rds w m.dv m.data := by
  obtain ⟨g, cap, cur, h1, h2, h4, h5, h6, h7, h8⟩ := h.lt
  rw [h1]
  refine .inr ⟨⟨g, 0, none⟩, cap, rfl, fun _ => lt_of_block h4, fun j u hj => ?_⟩
  rw [add_zero]
  have hjl : j < m.data.length := by
    have := (List.getElem?_eq_some_iff.1 hj).1
    rwa [Lib.byteCells_length] at this
  have hx : (m.data ++ [167])[j]? = some m.data[j] := by rw [List.getElem?_append_left hjl, List.getElem?_eq_getElem hjl]
  rw [ldat_cell h4 h8 hx]
  unfold Lib.byteCells at hj
  rw [List.getElem?_map, List.getElem?_eq_getElem hjl] at hj
  exact hj
theorem LtAt.mems {w : World} {b0 : Nat} {v : Value} {ms : List Mv} (h : LtAt w b0 v ms) : Mems w v ms := by
  obtain ⟨g, cap, cur, rfl, hb, hg, hc, hs, _, ht⟩ := h.row
  have hat : ∀ (i : Nat) n, ms[i]? = some n → (ms ++ [spare])[i]? = some n := fun i n hi => by rw [List.getElem?_append_left (List.getElem?_eq_some_iff.1 hi).1, hi]
  have hl : (ms ++ [spare]).length = ms.length + 1 := by simp
  rw [← hl] at ht
  refine .inr ⟨g, 0, cap, rfl, by omega, ⟨lt_of_block hg, fun i n hi => ?_, fun i n hi => ?_, fun i n hi => ?_⟩, fun n hn => (h.dat n hn).rds⟩
  · rw [Nat.zero_add]; exact cell_row hg ht (r := 0) (hat i n hi) (by omega) rfl
  · rw [Nat.zero_add]; exact cell_row hg ht (r := 1) (hat i n hi) (by omega) rfl
  · rw [Nat.zero_add]; exact cell_row hg ht (r := 2) (hat i n hi) (by omega) rfl
theorem LtAt.below {w w' : World} {b0 : Nat} {v : Value} {ms : List Mv} (h : LtAt w b0 v ms) (hb : Below w.heap.size w w') : LtAt w' b0 v ms := by
  obtain ⟨g, cap, cur, rfl, h2, hg, r⟩ := h.row
  exact ⟨⟨g, cap, cur, rfl, h2, (hb.block g (lt_of_block hg)).trans hg, r⟩, fun m hm => (h.dat m hm).kept fun g _ hc => hb.block g (by obtain ⟨cur, hc⟩ := hc; exact lt_of_block hc)⟩
set_option maxRecDepth 100000 in
set_option maxHeartbeats 4000000 in
theorem stay_any (b0 : Nat) (v v' : Value) (ms ns : List Mv) (w : World) (h : LtAt w b0 v ms) (h' : Mems w v' ns) (he : ms.map toE = ns.map toE) (hl : ns.length ≤ 100000) (hds : ∀ m ∈ ms, m.data.length ≤ 300000) :
    Calls Tryz.prog 12 #[v, v'] w fun r w' => r = .returned (.bool true) ∧ Below w.heap.size w w' := by
  have hml : ms.length = ns.length := by have := congrArg List.length he; simpa using this
  obtain ⟨g, cap, cur, hv, hb, hg, hc, hs, hm, ht⟩ := h.row
  obtain ⟨a', c', hv'⟩ := h'.len
  subst hv
  subst hv'
  rw [hml] at hc ht
  have q0 := Same_any (.slice (some ⟨g, 0, none⟩) ms.length cap) (.slice a' ns.length c') ms ns w h.mems h' (by omega)
  rw [hml] at q0 ⊢
  go_enter Tryz.func12, Tryz.ntmps12
  go_upto_region 1 with fail
  go_wp2_with fail
  refine q0.mono ?_
  rintro r w1 ⟨⟨b, rfl, hbt⟩, hb1⟩
  obtain rfl : b = true := hbt.2 (by simp [he])
  clear hbt q0
  have hs1 := hb1.size
  have hL := h.below hb1
  have hg1 := (hb1.block g (lt_of_block hg)).trans hg
  have hlen : (ms ++ [spare]).length = ns.length + 1 := by simp [hml]
  rw [← hlen] at ht
  have s2 : w1.cell? ⟨g, ns.length * 3 + 1, none⟩ = some (.int .i64 (-71)) := by
    have := cell_row hg1 ht (i := ns.length) (r := 1) (n := spare) (by rw [← hml]; simp) (by omega) rfl
    exact this
  have hcc : (ns.length : Int) + 1 ≤ cap := by omega
  have hcell : ∀ (i : Nat) m, ms[i]? = some m → w1.cell? ⟨g, i * 3 + 2, none⟩ = some m.dv := fun i m hi => cell_row hg1 ht (r := 2) (by rw [List.getElem?_append_left (List.getElem?_eq_some_iff.1 hi).1, hi]) (by omega) rfl
  have HC := hide' hcell
  have HL := hide' hL.dat
  clear hcell hL hg1 ht hlen h h' hg he
  go_wp2
  go_loopw [7, 8] (fun i _ wr => ∃ k : Nat, k ≤ ns.length ∧ i = .int .i64 k ∧ wr = w1) (fun i _ _ => ns.length - (intOf i).toNat)
  case atStart => exact ⟨0, Nat.zero_le _, rfl, rfl⟩
  case round =>
    obtain ⟨k, hk, rfl, rfl⟩ := hrel
    by_cases hkl : k < ns.length
    · have k1 : (k : Int) < ns.length := by omega
      obtain ⟨m, hm'⟩ : ∃ m, ms[k]? = some m := ⟨_, List.getElem?_eq_getElem (by omega)⟩
      have d3 := HC.out k m hm'
      have hmem := List.mem_of_getElem? hm'
      obtain ⟨g', cap', cur', e1, e2, e3, e4, e5, e6, e7⟩ := (HL.out m hmem).lt
      rw [e1] at d3
      have hdl := hds m hmem
      have hx : wr.cell? ⟨g', m.data.length, none⟩ = some (.int .u8 167) := ldat_cell (m := m) (x := 167) e3 e7 (by simp)
      have hcd : (m.data.length : Int) + 1 ≤ cap' := by omega
      generalize m.data.length = dl at *
      clear e3 e7 hm' hmem hds
      go_wp2
      exact ⟨⟨k + 1, by omega, by simp, trivial⟩, by simp [intOf]; omega⟩
    · obtain rfl : k = ns.length := by omega
      have k1 : ¬ (ns.length : Int) < ns.length := by omega
      go_wp2
      go_ret
      exact ⟨rfl, hb1⟩
end Go.Proofs.YtcijjigafcpcpaaGreatDoor
