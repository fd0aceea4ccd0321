/- The contracts of anvillaw5's num and Small. The contract of anvillaw5's alive. -/
import Derived.Test.YtamohpcdchhbbaaGreatDoorNew
import Derived.Lib.SlBytesConst
namespace Go.Proofs.YtamohpcdchhbbaaGreatDoor
open Go.RowKit Go.Maps

theorem num_any (n : Int) (w : World) : Calls Tryz.prog 13 #[.int .i64 n] w fun r w' => r = .returned (.int .i64 n) ∧ w' = w := by
  go_enter Tryz.func13, Tryz.ntmps13
  go_wp2
  go_ret
  exact ⟨rfl, rfl⟩
theorem three_alloc (w : World) (o1 o2 o3 : Obj) : (((w.alloc o1).alloc o2).alloc o3).heap[w.heap.size]? = some o1 ∧ (((w.alloc o1).alloc o2).alloc o3).heap[w.heap.size + 1]? = some o2 ∧ (((w.alloc o1).alloc o2).alloc o3).heap[w.heap.size + 1 + 1]? = some o3 := by
  refine ⟨?_, ?_, ?_⟩
  · exact (Below.heap_alloc _ _ _ (by simp; omega)).trans ((Below.heap_alloc _ _ _ (by simp)).trans (alloc_new w o1))
  · have q := alloc_new (w.alloc o1) o2
    rw [size_alloc'] at q
    exact (Below.heap_alloc _ _ _ (by simp)).trans q
  · have q := alloc_new ((w.alloc o1).alloc o2) o3
    rw [size_alloc', size_alloc'] at q
    exact q
def smallNs (b : Nat) : List Nv := [⟨[100], .slice none 0 0, ⟨true, 1, []⟩⟩, ⟨[100, 47, 120], .slice (some ⟨b, 0, none⟩) 2 2, ⟨false, 2, [104, 105]⟩⟩]
set_option maxHeartbeats 1000000 in
set_option maxRecDepth 100000 in
theorem res28 (tmps : Array Value) (b : Nat) (x y z : Value) (W : World) (h4 : tmps.getD 0 undef = .pointer (some ⟨b, 0, none⟩)) (hb : W.heap[b]? = some (.cells #[x, y, z] 24 (0, 0))) : (results Tryz.f28 tmps).run Tryz.prog W = .ok (.agg #[x, y, z]) W := by
  simp only [Array.getD_eq_getD_getElem?] at h4
  have c0 : W.cell? ⟨b, 0, none⟩ = some x := by rw [Lib.cell_of_heap hb]; rfl
  have c1 : W.cell? ⟨b, 1, none⟩ = some y := by rw [Lib.cell_of_heap hb]; rfl
  have c2 : W.cell? ⟨b, 2, none⟩ = some z := by rw [Lib.cell_of_heap hb]; rfl
  simp [results, Tryz.results28, go_sem, h4, c0, c1, c2]
theorem small_nodes {W : World} {b g : Nat} (hD : W.heap[b]? = some (.cells #[.int .u8 104, .int .u8 105] 5 (2, 3)))
    (hN : W.heap[g]? = some (.cells #[.string { data := #[100] }, .bool true, .int .i64 1, .slice none 0 0, .string { data := #[100, 47, 120] }, .bool false, .int .i64 2, .slice (some ⟨b, 0, none⟩) 2 2] 55 (0, 0))) : Nodes W (.slice (some ⟨g, 0, none⟩) 2 2) (smallNs b) := by
  refine .inr ⟨g, 0, 2, rfl, Nat.le_refl _, ⟨lt_of_block hN, fun i n hi => ?_, fun i n hi => ?_, fun i n hi => ?_, fun i n hi => ?_⟩, fun n hn => ?_⟩
  · rcases i with _ | _ | i
    · cases hi; rw [Lib.cell_of_heap hN]; rfl
    · cases hi; rw [Lib.cell_of_heap hN]; rfl
    · simp [smallNs] at hi
  · rcases i with _ | _ | i
    · cases hi; rw [Lib.cell_of_heap hN]; rfl
    · cases hi; rw [Lib.cell_of_heap hN]; rfl
    · simp [smallNs] at hi
  · rcases i with _ | _ | i
    · cases hi; rw [Lib.cell_of_heap hN]; rfl
    · cases hi; rw [Lib.cell_of_heap hN]; rfl
    · simp [smallNs] at hi
  · rcases i with _ | _ | i
    · cases hi; rw [Lib.cell_of_heap hN]; rfl
    · cases hi; rw [Lib.cell_of_heap hN]; rfl
    · simp [smallNs] at hi
  · simp only [smallNs, List.mem_cons, List.not_mem_nil, or_false] at hn
    rcases hn with rfl | rfl
    · exact .inl ⟨rfl, rfl⟩
    · refine .inr ⟨⟨b, 0, none⟩, 2, rfl, fun _ => lt_of_block hD, fun j u hj => ?_⟩
      rw [add_zero]
      rcases j with _ | _ | j
      · cases hj; rw [Lib.cell_of_heap hD]; rfl
      · cases hj; rw [Lib.cell_of_heap hD]; rfl
      · simp [Lib.byteCells] at hj
set_option maxRecDepth 100000 in
set_option maxHeartbeats 1000000 in
theorem Small_any (w : World) : Calls Tryz.prog 28 #[] w fun r w' => (∃ b v, r = .returned (.agg #[v, .int .i64 5, .int .i64 10]) ∧ Nodes w' v (smallNs b)) ∧ Below w.heap.size w w' := by
  have hcv := Lib.run_convert_bytes_const (P := Tryz.prog) (w.alloc (.cells #[.slice none 0 0, .int .i64 0, .int .i64 0] 24)) 43 5 #[.int .u8 104, .int .u8 105] 2 2 Tryz.underlying43 Tryz.underlying5
  simp only [size_alloc'] at hcv
  go_enter Tryz.func28, Tryz.ntmps28
  go_wp2
  obtain ⟨a1, a2, a3⟩ := three_alloc w (.cells #[.slice (some ⟨w.heap.size + 1 + 1, 0, none⟩) 2 2, .int .i64 5, .int .i64 10] 24) (.cells #[.int .u8 104, .int .u8 105] 5 (2, 3)) (.cells #[.string { data := #[100] }, .bool true, .int .i64 1, .slice none 0 0, .string { data := #[100, 47, 120] }, .bool false, .int .i64 2, .slice (some ⟨w.heap.size + 1, 0, none⟩) 2 2] 55)
  refine bodyPost_ret (res28 _ _ _ _ _ _ rfl a1) rfl ?_
  exact ⟨⟨_, _, rfl, small_nodes a2 a3⟩, (((Below.refl _ _).alloc (Nat.le_refl _) _).alloc (by simp) _).alloc (by simp; omega) _⟩
end Go.Proofs.YtamohpcdchhbbaaGreatDoor
namespace Go.Proofs.YtamohpcdchhbbaaGreatDoor
open Go.RowKit Go.Maps

def tr0 : Tr := [([100], ⟨true, 1, []⟩), ([100, 47, 120], ⟨false, 2, [104, 105]⟩)]
def tr1 : Tr := [([100], ⟨true, 1, []⟩), ([100, 47, 120], ⟨false, 2, [104, 105]⟩), ([100, 47, 121], ⟨false, 6, [97, 98, 99, 100, 101]⟩)]
theorem small_new (b : Nat) : newR (smallNs b) 5 10 = .inr tr0 := by kernel_rfl
theorem small_write : writeR tr0 5 10 (clean (tl { data := #[100, 47, 121] })) [97, 98, 99, 100, 101] false = (0, tr1, 6) := by kernel_rfl
theorem small_full : writeR tr1 6 10 (clean (tl { data := #[122] })) [] false = (15, tr1, 6) := by kernel_rfl
theorem small_filled : removeR tr1 6 (clean (tl { data := #[100] })) = (14, tr1, 6) := by kernel_rfl
theorem small_stat : statR tr1 (clean (tl { data := #[100, 47, 121] })) = (1, 6, 5) := by kernel_rfl
/-- a call's answer, with the blocks named anew -/
theorem NumAt.from {S : Nat → Prop} {A : Nat} {rm : Int} {w w' : World} {r : Ending} {o : Out} {N : Nat} (h : NumAt S A rm w r w' o) (hS : ∀ i, S i ↔ N ≤ i) (hN : N ≤ w.heap.size) : r = .returned (.int .i64 (o.1 : Nat)) ∧ IsFs w' (fun i => N ≤ i) A o.2.1 o.2.2 rm ∧ Below N w w' := by
  obtain ⟨h1, S', h2, h3, h4⟩ := h
  exact ⟨h1, h2.mono fun i hi => (h4 i hi).elim (fun q => (hS i).1 q) (fun q => Nat.le_trans hN q), h3.below hN fun i hi => (hS i).1 hi⟩
theorem eq_stat (w : World) : (binOp .eql 51 (.agg #[.int .i64 1, .int .i64 6, .int .i64 5]) (.agg #[.int .i64 1, .int .i64 6, .int .i64 5])).run Tryz.prog w = .ok (.bool true) w := by kernel_rfl
theorem eq_fs_nil (b : Nat) (w : World) : (binOp .eql 28 (.pointer (some ⟨b, 0, none⟩)) (.pointer none)).run Tryz.prog w = .ok (.bool false) w := by kernel_rfl
theorem word_rds {W : World} {b : Nat} (hD : W.heap[b]? = some (.cells #[.int .u8 97, .int .u8 98, .int .u8 99, .int .u8 100, .int .u8 101] 5 (5, 6))) : Rds W (.slice (some ⟨b, 0, none⟩) 5 5) [97, 98, 99, 100, 101] := by
  refine .inr ⟨⟨b, 0, none⟩, 5, rfl, fun _ => lt_of_block hD, fun j u hj => ?_⟩
  rw [add_zero]
  rcases j with _ | _ | _ | _ | _ | j
  · cases hj; rw [Lib.cell_of_heap hD]; rfl
  · cases hj; rw [Lib.cell_of_heap hD]; rfl
  · cases hj; rw [Lib.cell_of_heap hD]; rfl
  · cases hj; rw [Lib.cell_of_heap hD]; rfl
  · cases hj; rw [Lib.cell_of_heap hD]; rfl
  · simp [Lib.byteCells] at hj
set_option maxRecDepth 100000 in
set_option maxHeartbeats 2000000 in
theorem alive_any (B : Nat) (E : Addr) (w : World) (hG : Glo B w E) (hB : B ≤ w.heap.size) : Calls Tryz.prog 7 #[] w fun r w' => r = .returned (.bool true) ∧ Below w.heap.size w w' := by
  go_enter Tryz.func7, Tryz.ntmps7
  go_wp2_with fail
  refine (Small_any _).mono ?_
  rintro r w1 ⟨⟨b, v, rfl, hv⟩, hb1⟩
  have q1 := New_any B E v (smallNs b) 5 10 w1 hv (hG.keep (hb1.mono hB)) (Nat.le_trans hB hb1.size) (by intro n hn; simp only [smallNs, List.mem_cons, List.not_mem_nil, or_false] at hn; rcases hn with rfl | rfl <;> simp)
  rw [small_new] at q1
  obtain ⟨va, vc, hve⟩ := hv.len
  subst hve
  go_wp2_with fail
  refine q1.mono ?_
  rintro r w2 ⟨hb2, A, rfl, hf2⟩
  have hB2 := hb1.trans (hb2.mono hb1.size)
  have hf2 := hf2.mono (S' := fun i => w.heap.size ≤ i) fun i hi => Nat.le_trans hb1.size hi
  have he := fun w => eq_fs_nil A w
  go_wp2_with fail
  refine (num_any 0 _).mono ?_
  rintro r w3 ⟨rfl, rfl⟩
  have hcv := Lib.run_convert_bytes_const (P := Tryz.prog) w3 43 5 #[.int .u8 97, .int .u8 98, .int .u8 99, .int .u8 100, .int .u8 101] 5 5 Tryz.underlying43 Tryz.underlying5
  have hb3 : Below w3.heap.size w3 (w3.alloc (.cells #[.int .u8 97, .int .u8 98, .int .u8 99, .int .u8 100, .int .u8 101] 5 (5, 6))) := (Below.refl _ _).alloc (Nat.le_refl _) _
  have hB3 := hB2.trans (hb3.mono hB2.size)
  have q2 := Write_any B A E tr0 5 10 { data := #[100, 47, 121] } [97, 98, 99, 100, 101] (.slice (some ⟨w3.heap.size, 0, none⟩) 5 5) false _ _ (hf2.below hb3) (hG.keep (hB3.mono hB)) (Nat.le_trans hB hB3.size) (fun i hi => Nat.le_trans hB hi) (by omega) (by decide) (word_rds (alloc_new _ _)) (by decide)
  rw [small_write] at q2
  go_wp2_with fail
  refine q2.mono ?_
  intro r w4 hr
  obtain ⟨rfl, hf4, hb4⟩ := hr.from (fun i => Iff.rfl) hB3.size
  have hB4 := hB3.trans hb4
  have q3 := Write_any B A E tr1 6 10 { data := #[122] } [] (.slice none 0 0) false _ _ hf4 (hG.keep (hB4.mono hB)) (Nat.le_trans hB hB4.size) (fun i hi => Nat.le_trans hB hi) (by omega) (by decide) (.inl ⟨rfl, rfl⟩) (by decide)
  rw [small_full] at q3
  go_wp2_with fail
  refine q3.mono ?_
  intro r w5 hr
  obtain ⟨rfl, hf5, hb5⟩ := hr.from (fun i => Iff.rfl) hB4.size
  have hB5 := hB4.trans hb5
  have q4 := Remove_any B A E tr1 6 10 { data := #[100] } _ _ hf5 (hG.keep (hB5.mono hB)) (Nat.le_trans hB hB5.size) (fun i hi => Nat.le_trans hB hi) (by omega) (by decide)
  rw [small_filled] at q4
  go_wp2_with fail
  refine q4.mono ?_
  intro r w6 hr
  obtain ⟨rfl, hf6, hb6⟩ := hr.from (fun i => Iff.rfl) hB5.size
  have hB6 := hB5.trans hb6
  have q5 := Stat_any B A E tr1 6 10 { data := #[100, 47, 121] } _ _ hf6 (hG.keep (hB6.mono hB)) (Nat.le_trans hB hB6.size) (by decide)
  rw [small_stat] at q5
  have hes := eq_stat
  go_wp2_with fail
  refine (num_any _ _).mono ?_
  rintro r w7 ⟨rfl, rfl⟩
  go_wp2_with fail
  refine (num_any _ _).mono ?_
  rintro r w8 ⟨rfl, rfl⟩
  go_wp2_with fail
  refine (num_any _ _).mono ?_
  rintro r w9 ⟨rfl, rfl⟩
  go_wp2_with fail
  refine q5.mono ?_
  rintro r w10 ⟨rfl, hb10⟩
  unfold statV
  go_wp2
  go_ret
  exact ⟨rfl, hB6.trans (hb10.mono hB6.size)⟩
end Go.Proofs.YtamohpcdchhbbaaGreatDoor
