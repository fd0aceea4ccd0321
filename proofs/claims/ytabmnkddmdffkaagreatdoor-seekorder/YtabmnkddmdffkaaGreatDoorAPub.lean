/- The contracts of (*FS).Write, Mkdir, Remove, Touch, Rename, Stat. -/
import Derived.Test.YtabmnkddmdffkaaGreatDoorAMore
namespace Go.Proofs.YtabmnkddmdffkaaGreatDoor
open Go.RowKit Go.Maps

/-- behind a call: an error's number, and a file system -/
def NumAt (S : Nat → Prop) (A : Nat) (rm : Int) (w : World) (r : Ending) (w' : World) (o : Out) : Prop :=
  r = .returned (.int .i64 (o.1 : Nat)) ∧ ∃ S', IsFs w' S' A o.2.1 o.2.2 rm ∧ Turn S w w' ∧ ∀ i, S' i → S i ∨ w.heap.size ≤ i
theorem orEmpty_some (A : Nat) (w : World) : Calls Tryz.prog 40 #[.pointer (some ⟨A, 0, none⟩)] w fun r w' => r = .returned (.pointer (some ⟨A, 0, none⟩)) ∧ w' = w := by
  have hn : ∀ w : World, (binOp .eql 30 (.pointer (some ⟨A, 0, none⟩)) (.pointer none)).run Tryz.prog w = .ok (.bool false) w := fun w => by kernel_rfl
  go_enter Tryz.func40, Tryz.ntmps40
  go_wp2
  go_ret
  exact ⟨rfl, rfl⟩
theorem cln_len (s : ByteArray) (hs : s.size ≤ 400000) : (clean (tl s)).length ≤ 1000000 := by have := clean_len (tl s); rw [tl_len] at this; omega
/-- an error and its number -/
theorem num_of (B A : Nat) (E : Addr) {S : Nat → Prop} {rm : Int} {w w1 w2 : World} {v : Value} {k : Er} {o : Out} (hG : Glo B w E) (hB : B ≤ w.heap.size) (hS : ∀ i, S i → B ≤ i) (hb : Below w.heap.size w w1) (hv : IsErr w2 E v k) (hk : k.num = o.1)
    (h : ∃ S', IsFs w2 S' A o.2.1 o.2.2 rm ∧ Turn S w1 w2 ∧ ∀ i, S' i → S i ∨ w1.heap.size ≤ i) : Calls Tryz.prog 22 #[v] w2 fun r w' => NumAt S A rm w r w' o := by
  obtain ⟨S', h1, h2, h3⟩ := h
  have hT : Turn S w w2 := (Turn.of_below (S := S) hb).trans' h2
  refine (number_any B E v k w2 (hG.keep (hT.below hB hS)) hv).mono fun r w' hr => ?_
  obtain ⟨rfl, hb2⟩ := hr
  refine ⟨by rw [hk], S', h1.below hb2, hT.trans (Turn.of_below (S := S) hb2) fun i hi => .inl hi, fun i hi => ?_⟩
  rcases h3 i hi with h | h
  · exact .inl h
  · exact .inr (Nat.le_trans hb.size h)

set_option maxHeartbeats 1000000 in
theorem Write_any (B A : Nat) (E : Addr) (T : Tr) (clk rm : Int) (s : ByteArray) (bs : Bs) (bv : Value) (add : Bool) (S : Nat → Prop) (w : World) (h : IsFs w S A T clk rm) (hG : Glo B w E) (hB : B ≤ w.heap.size) (hS : ∀ i, S i → B ≤ i) (hk1 : clk ≤ 1099511627776000) (hs : s.size ≤ 400000) (hbv : Rds w bv bs) (hbl : bs.length ≤ 1000000) :
    Calls Tryz.prog 19 #[.pointer (some ⟨A, 0, none⟩), .string s, bv, .bool add] w fun r w' => NumAt S A rm w r w' (writeR T clk rm (clean (tl s)) bs add) := by
  have q1 := clean_any s (by omega) w
  have q2 := fun w1 (hb : Below w.heap.size w w1) => write_fs B A E T clk rm (clean (tl s)) bs bv add S w1 (h.below hb) (hG.keep (hb.mono hB)) (Nat.le_trans hB hb.size) hk1 (cln_len s hs) (hbv.below hb) hbl
  generalize writeR T clk rm (clean (tl s)) bs add = o at q2
  generalize clean (tl s) = c at q1 q2
  obtain ⟨ba, bc, hbe⟩ := hbv.len
  generalize bs.length = n at hbe
  clear hbv
  subst hbe
  go_enter Tryz.func19, Tryz.ntmps19
  go_wp2_with fail
  refine (orEmpty_some A _).mono ?_
  rintro r w0 ⟨rfl, rfl⟩
  go_wp2_with fail
  refine q1.mono ?_
  rintro r w1 ⟨rfl, hb⟩
  go_wp2_with fail
  refine (q2 w1 hb).mono ?_
  rintro r w2 ⟨v, k, rfl, hv, hk, ho⟩
  go_wp2_with fail
  refine (num_of B A E hG hB hS hb hv hk ho).mono ?_
  rintro r w3 ⟨rfl, h3⟩
  go_wp2
  go_ret
  exact ⟨rfl, h3⟩
set_option maxHeartbeats 1000000 in
theorem Mkdir_any (B A : Nat) (E : Addr) (T : Tr) (clk rm : Int) (s : ByteArray) (S : Nat → Prop) (w : World) (h : IsFs w S A T clk rm) (hG : Glo B w E) (hB : B ≤ w.heap.size) (hS : ∀ i, S i → B ≤ i) (hk1 : clk ≤ 1099511627776000) (hs : s.size ≤ 400000) :
    Calls Tryz.prog 18 #[.pointer (some ⟨A, 0, none⟩), .string s] w fun r w' => NumAt S A rm w r w' (mkdirR T clk rm (clean (tl s))) := by
  have q1 := clean_any s (by omega) w
  have q2 := fun w1 (hb : Below w.heap.size w w1) => mkdir_fs B A E T clk rm (clean (tl s)) S w1 (h.below hb) (hG.keep (hb.mono hB)) (Nat.le_trans hB hb.size) hk1 (cln_len s hs)
  generalize mkdirR T clk rm (clean (tl s)) = o at q2
  generalize clean (tl s) = c at q1 q2
  go_enter Tryz.func18, Tryz.ntmps18
  go_wp2_with fail
  refine (orEmpty_some A _).mono ?_
  rintro r w0 ⟨rfl, rfl⟩
  go_wp2_with fail
  refine q1.mono ?_
  rintro r w1 ⟨rfl, hb⟩
  go_wp2_with fail
  refine (q2 w1 hb).mono ?_
  rintro r w2 ⟨v, k, rfl, hv, hk, ho⟩
  go_wp2_with fail
  refine (num_of B A E hG hB hS hb hv hk ho).mono ?_
  rintro r w3 ⟨rfl, h3⟩
  go_wp2
  go_ret
  exact ⟨rfl, h3⟩
/-- kind, time, size -/
def statR (T : Tr) (p : Bs) : Int × Int × Int :=
  match lookN T p with
  | .bad _ => (0, 0, 0)
  | .non => (0, 0, 0)
  | .rt => (2, 0, 0)
  | .is n => if n.dir then (2, n.time, 0) else (1, n.time, n.data.length)
def statV (x : Int × Int × Int) : Value := .agg #[.int .i64 x.1, .int .i64 x.2.1, .int .i64 x.2.2]
theorem res27 (tmps : Array Value) (b : Nat) (x y z : Value) (W : World) (h4 : tmps.getD 4 undef = .pointer (some ⟨b, 0, none⟩)) (hb : W.heap[b]? = some (.cells #[x, y, z] 88 (0, 0))) : (results Tryz.f63 tmps).run Tryz.prog W = .ok (.agg #[x, y, z]) W := by
  simp only [Array.getD_eq_getD_getElem?] at h4
  have c0 : W.cell? ⟨b, 0, none⟩ = some x := by rw [Lib.cell_of_heap hb]; rfl
  have c1 : W.cell? ⟨b, 1, none⟩ = some y := by rw [Lib.cell_of_heap hb]; rfl
  have c2 : W.cell? ⟨b, 2, none⟩ = some z := by rw [Lib.cell_of_heap hb]; rfl
  simp [results, Tryz.results63, go_sem, h4, c0, c1, c2]
theorem stat_end {w w2 : World} {x y z : Value} (hB : Below w.heap.size w w2) (hz : w2.heap[w.heap.size]? = some (.cells #[.int .i64 0, .int .i64 0, .int .i64 0] 88 (0, 0))) :
    (((w2.setCell ⟨w.heap.size, 0, none⟩ x).setCell ⟨w.heap.size, 1, none⟩ y).setCell ⟨w.heap.size, 2, none⟩ z).heap[w.heap.size]? = some (.cells #[x, y, z] 88 (0, 0)) ∧ Below w.heap.size w (((w2.setCell ⟨w.heap.size, 0, none⟩ x).setCell ⟨w.heap.size, 1, none⟩ y).setCell ⟨w.heap.size, 2, none⟩ z) :=
  ⟨set_row (set_row (set_row hz 0 x) 1 y) 2 z, ((hB.setCell (p := ⟨w.heap.size, 0, none⟩) (Nat.le_refl _) _).setCell (p := ⟨w.heap.size, 1, none⟩) (Nat.le_refl _) _).setCell (p := ⟨w.heap.size, 2, none⟩) (Nat.le_refl _) _⟩
set_option maxRecDepth 100000 in
set_option maxHeartbeats 2000000 in
theorem Stat_any (B A : Nat) (E : Addr) (T : Tr) (clk rm : Int) (s : ByteArray) (S : Nat → Prop) (w : World) (h : IsFs w S A T clk rm) (hG : Glo B w E) (hB : B ≤ w.heap.size) (hs : s.size ≤ 400000) :
    Calls Tryz.prog 63 #[.pointer (some ⟨A, 0, none⟩), .string s] w fun r w' => r = .returned (statV (statR T (clean (tl s)))) ∧ Below w.heap.size w w' := by
  obtain ⟨M, L, hF, hO, rfl⟩ := h.mem
  have hb0 : Below w.heap.size w (w.alloc (.cells #[.int .i64 0, .int .i64 0, .int .i64 0] 88)) := (Below.refl _ _).alloc (Nat.le_refl _) _
  have q1 := clean_any s (by omega)
  have q2 := fun w1 (hb : Below w.heap.size w w1) => look_any B A M L (weight (nds L)) clk rm (clean (tl s)) w1 E (hF.below hb) (hG.keep (hb.mono hB)) (Nat.le_trans hB hb.size) (cln_len s hs)
  unfold statR
  rw [lookV_nd]
  have hz : ∀ w1, Below (w.heap.size + 1) (w.alloc (.cells #[.int .i64 0, .int .i64 0, .int .i64 0] 88)) w1 → w1.heap[w.heap.size]? = some (.cells #[.int .i64 0, .int .i64 0, .int .i64 0] 88 (0, 0)) := fun w1 hb => (hb.block _ (by omega)).trans (World.alloc_heap_new w _)
  have hsz : (w.alloc (.cells #[.int .i64 0, .int .i64 0, .int .i64 0] 88)).heap.size = w.heap.size + 1 := by simp
  have HZ := hide' hz
  have Hb0 := hide' hb0
  clear hz hb0
  generalize clean (tl s) = c at q1 q2
  cases hl : lookV L c with
  | bad n =>
    rw [hl] at q2
    simp only [Lk.map]
    go_enter Tryz.func63, Tryz.ntmps63
    go_wp2_with fail
    refine (orEmpty_some A _).mono ?_
    rintro r w0 ⟨rfl, rfl⟩
    go_wp2_with fail
    refine (q1 _).mono ?_
    rintro r w1 ⟨rfl, hb1⟩
    have hB1 : Below w.heap.size w w1 := Hb0.out.trans (hb1.mono (by simp))
    go_wp2_with fail
    refine (q2 w1 hB1).mono ?_
    rintro r w2 ⟨⟨b, rfl, hf⟩, hb2⟩
    have hB2 : Below w.heap.size w w2 := hB1.trans (hb2.mono hB1.size)
    rw [hsz] at hb1
    have hzz := HZ.out w2 (hb1.trans (hb2.mono (by have := hb1.size; rw [hsz] at this; exact this)))
    have z0 : w2.cell? ⟨w.heap.size, 0, none⟩ = some (.int .i64 0) := by rw [Lib.cell_of_heap hzz]; rfl
    have z1 : w2.cell? ⟨w.heap.size, 1, none⟩ = some (.int .i64 0) := by rw [Lib.cell_of_heap hzz]; rfl
    have z2 : w2.cell? ⟨w.heap.size, 2, none⟩ = some (.int .i64 0) := by rw [Lib.cell_of_heap hzz]; rfl
    have f0 := Lib.frozen_of_heap hzz 0
    have f1 := Lib.frozen_of_heap hzz 1
    have f2 := Lib.frozen_of_heap hzz 2
    have hend := fun x y z => stat_end (x := x) (y := y) (z := z) hB2 hzz
    clear hzz
    go_wp2
    refine bodyPost_ret (res27 _ _ _ _ _ _ rfl (hend _ _ _).1) rfl ?_
    exact ⟨rfl, (hend _ _ _).2⟩
  | non =>
    rw [hl] at q2
    simp only [Lk.map]
    go_enter Tryz.func63, Tryz.ntmps63
    go_wp2_with fail
    refine (orEmpty_some A _).mono ?_
    rintro r w0 ⟨rfl, rfl⟩
    go_wp2_with fail
    refine (q1 _).mono ?_
    rintro r w1 ⟨rfl, hb1⟩
    have hB1 : Below w.heap.size w w1 := Hb0.out.trans (hb1.mono (by simp))
    go_wp2_with fail
    refine (q2 w1 hB1).mono ?_
    rintro r w2 ⟨⟨b, rfl, hf⟩, hb2⟩
    have hB2 : Below w.heap.size w w2 := hB1.trans (hb2.mono hB1.size)
    rw [hsz] at hb1
    have hzz := HZ.out w2 (hb1.trans (hb2.mono (by have := hb1.size; rw [hsz] at this; exact this)))
    have z0 : w2.cell? ⟨w.heap.size, 0, none⟩ = some (.int .i64 0) := by rw [Lib.cell_of_heap hzz]; rfl
    have z1 : w2.cell? ⟨w.heap.size, 1, none⟩ = some (.int .i64 0) := by rw [Lib.cell_of_heap hzz]; rfl
    have z2 : w2.cell? ⟨w.heap.size, 2, none⟩ = some (.int .i64 0) := by rw [Lib.cell_of_heap hzz]; rfl
    have f0 := Lib.frozen_of_heap hzz 0
    have f1 := Lib.frozen_of_heap hzz 1
    have f2 := Lib.frozen_of_heap hzz 2
    have hend := fun x y z => stat_end (x := x) (y := y) (z := z) hB2 hzz
    clear hzz
    go_wp2
    refine bodyPost_ret (res27 _ _ _ _ _ _ rfl (hend _ _ _).1) rfl ?_
    exact ⟨rfl, (hend _ _ _).2⟩
  | rt =>
    rw [hl] at q2
    simp only [Lk.map]
    go_enter Tryz.func63, Tryz.ntmps63
    go_wp2_with fail
    refine (orEmpty_some A _).mono ?_
    rintro r w0 ⟨rfl, rfl⟩
    go_wp2_with fail
    refine (q1 _).mono ?_
    rintro r w1 ⟨rfl, hb1⟩
    have hB1 : Below w.heap.size w w1 := Hb0.out.trans (hb1.mono (by simp))
    go_wp2_with fail
    refine (q2 w1 hB1).mono ?_
    rintro r w2 ⟨⟨b, hbN, rfl, hn⟩, hb2⟩
    have hB2 : Below w.heap.size w w2 := hB1.trans (hb2.mono hB1.size)
    rw [hsz] at hb1
    have hzz := HZ.out w2 (hb1.trans (hb2.mono (by have := hb1.size; rw [hsz] at this; exact this)))
    have z0 : w2.cell? ⟨w.heap.size, 0, none⟩ = some (.int .i64 0) := by rw [Lib.cell_of_heap hzz]; rfl
    have z1 : w2.cell? ⟨w.heap.size, 1, none⟩ = some (.int .i64 0) := by rw [Lib.cell_of_heap hzz]; rfl
    have z2 : w2.cell? ⟨w.heap.size, 2, none⟩ = some (.int .i64 0) := by rw [Lib.cell_of_heap hzz]; rfl
    have f0 := Lib.frozen_of_heap hzz 0
    have f1 := Lib.frozen_of_heap hzz 1
    have f2 := Lib.frozen_of_heap hzz 2
    have hend := fun x y z => stat_end (x := x) (y := y) (z := z) hB2 hzz
    clear hzz
    have c0 : w2.cell? ⟨b, 0, none⟩ = some (.bool true) := hn.c0
    have c1 : w2.cell? ⟨b, 1, none⟩ = some (.int .i64 0) := hn.c1
    go_wp2
    refine bodyPost_ret (res27 _ _ _ _ _ _ rfl (hend _ _ _).1) rfl ?_
    exact ⟨rfl, (hend _ _ _).2⟩
  | is e =>
    rw [hl] at q2
    simp only [Lk.map]
    obtain ⟨k, hm⟩ := lookV_mem hl
    have hn : NodeAt w e := hF.nodes _ hm
    obtain ⟨da, dc, hdv⟩ := (hO.dat _ hm).len
    simp only at hdv
    cases hd : e.nd.dir with
    | true =>
      simp only [if_true]
      go_enter Tryz.func63, Tryz.ntmps63
      go_wp2_with fail
      refine (orEmpty_some A _).mono ?_
      rintro r w0 ⟨rfl, rfl⟩
      go_wp2_with fail
      refine (q1 _).mono ?_
      rintro r w1 ⟨rfl, hb1⟩
      have hB1 : Below w.heap.size w w1 := Hb0.out.trans (hb1.mono (by simp))
      go_wp2_with fail
      refine (q2 w1 hB1).mono ?_
      rintro r w2 ⟨rfl, hb2⟩
      have hB2 : Below w.heap.size w w2 := hB1.trans (hb2.mono hB1.size)
      rw [hsz] at hb1
      have hzz := HZ.out w2 (hb1.trans (hb2.mono (by have := hb1.size; rw [hsz] at this; exact this)))
      have z0 : w2.cell? ⟨w.heap.size, 0, none⟩ = some (.int .i64 0) := by rw [Lib.cell_of_heap hzz]; rfl
      have z1 : w2.cell? ⟨w.heap.size, 1, none⟩ = some (.int .i64 0) := by rw [Lib.cell_of_heap hzz]; rfl
      have z2 : w2.cell? ⟨w.heap.size, 2, none⟩ = some (.int .i64 0) := by rw [Lib.cell_of_heap hzz]; rfl
      have f0 := Lib.frozen_of_heap hzz 0
      have f1 := Lib.frozen_of_heap hzz 1
      have f2 := Lib.frozen_of_heap hzz 2
      have hend := fun x y z => stat_end (x := x) (y := y) (z := z) hB2 hzz
      clear hzz
      have hn2 := hn.below hB2
      have c0 := hn2.c0
      have c1 := hn2.c1
      have c2 := hn2.c2
      rw [hd] at c0
      rw [hdv] at c2
      clear hn2
      go_wp2
      refine bodyPost_ret (res27 _ _ _ _ _ _ rfl (hend _ _ _).1) rfl ?_
      exact ⟨rfl, (hend _ _ _).2⟩
    | false =>
      simp only [Bool.false_eq_true, if_false]
      go_enter Tryz.func63, Tryz.ntmps63
      go_wp2_with fail
      refine (orEmpty_some A _).mono ?_
      rintro r w0 ⟨rfl, rfl⟩
      go_wp2_with fail
      refine (q1 _).mono ?_
      rintro r w1 ⟨rfl, hb1⟩
      have hB1 : Below w.heap.size w w1 := Hb0.out.trans (hb1.mono (by simp))
      go_wp2_with fail
      refine (q2 w1 hB1).mono ?_
      rintro r w2 ⟨rfl, hb2⟩
      have hB2 : Below w.heap.size w w2 := hB1.trans (hb2.mono hB1.size)
      rw [hsz] at hb1
      have hzz := HZ.out w2 (hb1.trans (hb2.mono (by have := hb1.size; rw [hsz] at this; exact this)))
      have z0 : w2.cell? ⟨w.heap.size, 0, none⟩ = some (.int .i64 0) := by rw [Lib.cell_of_heap hzz]; rfl
      have z1 : w2.cell? ⟨w.heap.size, 1, none⟩ = some (.int .i64 0) := by rw [Lib.cell_of_heap hzz]; rfl
      have z2 : w2.cell? ⟨w.heap.size, 2, none⟩ = some (.int .i64 0) := by rw [Lib.cell_of_heap hzz]; rfl
      have f0 := Lib.frozen_of_heap hzz 0
      have f1 := Lib.frozen_of_heap hzz 1
      have f2 := Lib.frozen_of_heap hzz 2
      have hend := fun x y z => stat_end (x := x) (y := y) (z := z) hB2 hzz
      clear hzz
      have hn2 := hn.below hB2
      have c0 := hn2.c0
      have c1 := hn2.c1
      have c2 := hn2.c2
      rw [hd] at c0
      rw [hdv] at c2
      clear hn2
      have hze : e.blk ≠ w.heap.size := by have := hn.lt; omega
      go_wp2
      go_region
      all_goals go_wp2
      all_goals
        refine bodyPost_ret (res27 _ _ _ _ _ (World.drew _) rfl (hend _ _ _).1) rfl ?_
        exact ⟨rfl, (hend _ _ _).2.drew⟩
end Go.Proofs.YtabmnkddmdffkaaGreatDoor
