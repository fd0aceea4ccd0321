/- The contracts of anvillaw5's num and Small. -/
import Derived.Test.YtamohpcdchhbbaaGreatDoorNew
import Derived.Lib.SlBytesConst
namespace Go.Proofs.YtamohpcdchhbbaaGreatDoor
open Go.RowKit Go.Maps

theorem num_any (n : Int) (w : World) : Calls Tryz.prog 13 #[.int .i64 n] w fun r w' => r = .returned (.int .i64 n) ∧ w' = w := by
  go_enter Tryz.func13, Tryz.ntmps13
  go_wp2
  go_ret
  exact ⟨rfl, rfl⟩
theorem three_alloc (w : World) (o1 o2 o3 : Obj) : (((w.alloc o1).alloc o2).alloc o3).heap[w.heap.size]? = some o1 ∧ (((w.alloc o1).alloc o2).alloc o3).heap[w.heap.size + 1]? = some o2 ∧ (((w.alloc o1).alloc o2).alloc o3).heap[w.heap.size + 1 + 1]? = some o3 := by
  refine ⟨?_, ?_, ?_⟩
  · exact (Below.heap_alloc _ _ _ (by simp; omega)).trans ((Below.heap_alloc _ _ _ (by simp)).trans (alloc_new w o1))
  · have q := alloc_new (w.alloc o1) o2
    rw [size_alloc'] at q
    exact (Below.heap_alloc _ _ _ (by simp)).trans q
  · have q := alloc_new ((w.alloc o1).alloc o2) o3
    rw [size_alloc', size_alloc'] at q
    exact q
def smallNs (b : Nat) : List Nv := [⟨[100], .slice none 0 0, ⟨true, 1, []⟩⟩, ⟨[100, 47, 120], .slice (some ⟨b, 0, none⟩) 2 2, ⟨false, 2, [104, 105]⟩⟩]
set_option maxHeartbeats 1000000 in
set_option maxRecDepth 100000 in
theorem res28 (tmps : Array Value) (b : Nat) (x y z : Value) (W : World) (h4 : tmps.getD 0 undef = .pointer (some ⟨b, 0, none⟩)) (hb : W.heap[b]? = some (.cells #[x, y, z] 24 (0, 0))) : (results Tryz.f28 tmps).run Tryz.prog W = .ok (.agg #[x, y, z]) W := by
  simp only [Array.getD_eq_getD_getElem?] at h4
  have c0 : W.cell? ⟨b, 0, none⟩ = some x := by rw [Lib.cell_of_heap hb]; rfl
  have c1 : W.cell? ⟨b, 1, none⟩ = some y := by rw [Lib.cell_of_heap hb]; rfl
  have c2 : W.cell? ⟨b, 2, none⟩ = some z := by rw [Lib.cell_of_heap hb]; rfl
  simp [results, Tryz.results28, go_sem, h4, c0, c1, c2]
theorem small_nodes {W : World} {b g : Nat} (hD : W.heap[b]? = some (.cells #[.int .u8 104, .int .u8 105] 5 (2, 3)))
    (hN : W.heap[g]? = some (.cells #[.string { data := #[100] }, .bool true, .int .i64 1, .slice none 0 0, .string { data := #[100, 47, 120] }, .bool false, .int .i64 2, .slice (some ⟨b, 0, none⟩) 2 2] 55 (0, 0))) : Nodes W (.slice (some ⟨g, 0, none⟩) 2 2) (smallNs b) := by
  refine .inr ⟨g, 0, 2, rfl, Nat.le_refl _, ⟨lt_of_block hN, fun i n hi => ?_, fun i n hi => ?_, fun i n hi => ?_, fun i n hi => ?_⟩, fun n hn => ?_⟩
  · rcases i with _ | _ | i
    · cases hi; rw [Lib.cell_of_heap hN]; rfl
    · cases hi; rw [Lib.cell_of_heap hN]; rfl
    · simp [smallNs] at hi
  · rcases i with _ | _ | i
    · cases hi; rw [Lib.cell_of_heap hN]; rfl
    · cases hi; rw [Lib.cell_of_heap hN]; rfl
    · simp [smallNs] at hi
  · rcases i with _ | _ | i
    · cases hi; rw [Lib.cell_of_heap hN]; rfl
    · cases hi; rw [Lib.cell_of_heap hN]; rfl
    · simp [smallNs] at hi
  · rcases i with _ | _ | i
    · cases hi; rw [Lib.cell_of_heap hN]; rfl
    · cases hi; rw [Lib.cell_of_heap hN]; rfl
    · simp [smallNs] at hi
  · simp only [smallNs, List.mem_cons, List.not_mem_nil, or_false] at hn
    rcases hn with rfl | rfl
    · exact .inl ⟨rfl, rfl⟩
    · refine .inr ⟨⟨b, 0, none⟩, 2, rfl, fun _ => lt_of_block hD, fun j u hj => ?_⟩
      rw [add_zero]
      rcases j with _ | _ | j
      · cases hj; rw [Lib.cell_of_heap hD]; rfl
      · cases hj; rw [Lib.cell_of_heap hD]; rfl
      · simp [Lib.byteCells] at hj
set_option maxRecDepth 100000 in
set_option maxHeartbeats 1000000 in
theorem Small_any (w : World) : Calls Tryz.prog 28 #[] w fun r w' => (∃ b v, r = .returned (.agg #[v, .int .i64 5, .int .i64 10]) ∧ Nodes w' v (smallNs b)) ∧ Below w.heap.size w w' := by
  have hcv := Lib.run_convert_bytes_const (P := Tryz.prog) (w.alloc (.cells #[.slice none 0 0, .int .i64 0, .int .i64 0] 24)) 43 5 #[.int .u8 104, .int .u8 105] 2 2 Tryz.underlying43 Tryz.underlying5
  simp only [size_alloc'] at hcv
  go_enter Tryz.func28, Tryz.ntmps28
  go_wp2
  obtain ⟨a1, a2, a3⟩ := three_alloc w (.cells #[.slice (some ⟨w.heap.size + 1 + 1, 0, none⟩) 2 2, .int .i64 5, .int .i64 10] 24) (.cells #[.int .u8 104, .int .u8 105] 5 (2, 3)) (.cells #[.string { data := #[100] }, .bool true, .int .i64 1, .slice none 0 0, .string { data := #[100, 47, 120] }, .bool false, .int .i64 2, .slice (some ⟨w.heap.size + 1, 0, none⟩) 2 2] 55)
  refine bodyPost_ret (res28 _ _ _ _ _ _ rfl a1) rfl ?_
  exact ⟨⟨_, _, rfl, small_nodes a2 a3⟩, (((Below.refl _ _).alloc (Nat.le_refl _) _).alloc (by simp) _).alloc (by simp; omega) _⟩
end Go.Proofs.YtamohpcdchhbbaaGreatDoor
