/- The contract of (*FS).put. -/
import Derived.Test.YtabmnkddmdffkaaGreatDoorAFast
import Derived.Deep.QuietTactic
namespace Go.Proofs.YtabmnkddmdffkaaGreatDoor
open Go.RowKit Go.Maps

/-- but for the file system's own block, its map and one node nothing has turned -/
abbrev Three (A M b : Nat) : Nat → Prop := fun k => k = A ∨ k = M ∨ k = b
/-- a fault that holds a number, in memory -/
def Flt (w : World) (b : Nat) (n : Int) : Prop := ∃ p, w.heap[b]? = some (.cells #[.string p, .iface 31 (.int .i64 n)] 107 (0, 0))

set_option maxRecDepth 100000 in
set_option maxHeartbeats 2000000 in
/-- nothing is there, and there is room -/
theorem put_new (A M : Nat) (L : Ents) (wt clk rm : Int) (p : Bs) (e : En) (w : World) (h : FsAt w A M L wt clk rm) (hf : fnd L p = none) (hp : p.length ≤ 1000) (hw0 : 0 ≤ wt) (hw1 : wt ≤ 1048576) (hk0 : 0 ≤ clk) (hk1 : clk ≤ 1099511627776000) (hsz : ∀ e ∈ L, e.2.nd.data.length ≤ 1048576)
    (hn : NodeAt w e) (hd : Rds w e.dv e.nd.data) (hes : e.nd.data.length ≤ 1048576) (hlen : L.length + 1 ≤ 1000) (hr : wt + e.nd.wt ≤ rm) :
    Calls Tryz.prog 73 #[.pointer (some ⟨A, 0, none⟩), .string (mk p), .pointer (some ⟨e.blk, 0, none⟩)] w fun r w' => r = .returned .nilIface ∧ Fb w' A M (wt + e.nd.wt) (clk + 1) rm ∧ Mp w' M (put L p e) ∧ NodeAt w' (aged e (clk + 1)) ∧ Turn (Three A M e.blk) w w' := by
  have hpm : p.length ≤ maxLen := by unfold maxLen; omega
  have hl := fun n => Mp.look (w := w.drewN n) (M := M) (L := L) h.mp p hpm
  simp only [hf, Option.map, ptrOf] at hl
  have hln := fun (ty : TypeId) (n : Nat) => Mp.len (w := w.drewN n) (M := M) (L := L) h.mp ty
  have c0 := h.fb.c0
  have c1 := h.fb.c1
  have c3 := h.fb.c3
  have eq0 := neq_nil_nil
  have q := fun n => weight_any e (w.drewN n) hn hd.len (by omega)
  have hew : e.nd.wt ≤ 1048577 := by unfold Nd.wt; omega
  have k1 : ¬ (1000 : Int) < (L.length : Int) + 1 := by omega
  have k2 : ¬ rm < wt + (e.nd.wt : Int) := by omega
  have HQ : Hid (∀ n, Calls Tryz.prog 50 #[.pointer (some ⟨A, 0, none⟩), .string (mk p), .pointer (some ⟨e.blk, 0, none⟩)] ((w.drewN n).alloc (.cells #[.pointer (some ⟨e.blk, 0, none⟩)] 97)) fun r w' => r = .returned (.tuple #[]) ∧ Fb w' A M (wt + e.nd.wt) clk rm ∧ Mp w' M (put L p e) ∧ Turn (Two A M) ((w.drewN n).alloc (.cells #[.pointer (some ⟨e.blk, 0, none⟩)] 97)) w') := by
    intro n
    have hb : Below w.heap.size w ((w.drewN n).alloc (.cells #[.pointer (some ⟨e.blk, 0, none⟩)] 97)) := (below_drewn n).alloc (Nat.le_refl _) _
    have := set_any A M L wt clk rm p e _ (h.below hb) hp (by omega) (by omega) (fun x hx => Nat.le_trans (hsz x hx) (by omega)) ((hb.block _ hn.lt).trans hn) (hd.below hb) (by omega) (by omega)
    have e0 : wt - ((wtAt L p : Nat) : Int) = wt := by unfold wtAt; rw [hf]; simp
    rw [e0] at this
    exact this
  have hA := h.fb.lt
  have hB := hn.lt
  have hAB := node_ne hn h.fb
  have hMB := node_ne_map hn h.mp
  have hML := h.mp.lt
  have HN := hide' hn
  clear h hf hsz hd hes hlen hr hpm hn
  go_enter_defers Tryz.func73, Tryz.ntmps73
  go_wp2
  go_quiet ((go_at_call 80; exact Calls.quiet_of_same (q _)))
  go_wp2_with fail
  refine (HQ.out _).mono ?_
  rintro r w1 ⟨rfl, hf1, hm1, ht1⟩
  go_wp2
  have hs := ht1.size
  rw [World.size_alloc] at hs
  have hz : (w.drewN nq).heap.size = w.heap.size := rfl
  have hn1 : NodeAt w1 e := (ht1.block _ (by rw [World.size_alloc]; omega) (fun hs => by rcases hs with h | h; exact hAB h; exact hMB h)).trans ((Below.heap_alloc _ _ _ (by rw [hz]; exact hB)).trans HN.out)
  have cv : w1.cell? ⟨w.heap.size, 0, none⟩ = some (.pointer (some ⟨e.blk, 0, none⟩)) :=
    (World.cell?_of_block (a := ⟨w.heap.size, 0, none⟩) (ht1.block w.heap.size (by rw [World.size_alloc]; omega) (fun hs => by rcases hs with h | h <;> omega))).trans (World.cell?_alloc_at _ _ _ _ (by simp))
  refine leaves_cons (f := 101) (args := #[.pointer (some ⟨A, 0, none⟩), .slice (some ⟨w.heap.size, 0, none⟩) 1 1]) (by simp) (by simp [go_sem]) ?_
  refine (fasten_node A M w.heap.size (put L p e) (wt + e.nd.wt) clk rm e .returning w1 hf1 hm1 hn1 hk0 hk1 (by omega) cv).mono ?_
  rintro r u' w'' ⟨rfl, rfl, hf2, hm2, hn2, ht2⟩
  refine ⟨_, results_tmp rfl _ _ _, rfl, hf2, hm2, hn2, ?_⟩
  have hta : Turn (Three A M e.blk) w ((w.drewN nq).alloc (.cells #[.pointer (some ⟨e.blk, 0, none⟩)] 97)) := ((Turn.refl _ w).drewN nq).alloc _
  exact (hta.trans ht1 fun i hi => .inl (by rcases hi with h | h; exact .inl h; exact .inr (.inl h))).trans ht2 fun i hi => .inl (by rcases hi with h | h; exact .inl h; exact .inr (.inr h))
set_option maxRecDepth 100000 in
set_option maxHeartbeats 2000000 in
/-- something is there, and there is room -/
theorem put_old (A M : Nat) (L : Ents) (wt clk rm : Int) (p : Bs) (e o : En) (w : World) (h : FsAt w A M L wt clk rm) (hf : fnd L p = some o) (hp : p.length ≤ 1000) (hw0 : 0 ≤ wt) (hw1 : wt ≤ 1048576) (hk0 : 0 ≤ clk) (hk1 : clk ≤ 1099511627776000) (hsz : ∀ e ∈ L, e.2.nd.data.length ≤ 1048576)
    (hn : NodeAt w e) (hd : Rds w e.dv e.nd.data) (hes : e.nd.data.length ≤ 1048576) (hlen : L.length ≤ 1000) (hr : wt + e.nd.wt - o.nd.wt ≤ rm) :
    Calls Tryz.prog 73 #[.pointer (some ⟨A, 0, none⟩), .string (mk p), .pointer (some ⟨e.blk, 0, none⟩)] w fun r w' => r = .returned .nilIface ∧ Fb w' A M (wt - o.nd.wt + e.nd.wt) (clk + 1) rm ∧ Mp w' M (put L p e) ∧ NodeAt w' (aged e (clk + 1)) ∧ Turn (Three A M e.blk) w w' := by
  have hpm : p.length ≤ maxLen := by unfold maxLen; omega
  have hl := fun n => Mp.look (w := w.drewN n) (M := M) (L := L) h.mp p hpm
  simp only [hf, Option.map, ptrOf] at hl
  have hln := fun (ty : TypeId) (n : Nat) => Mp.len (w := w.drewN n) (M := M) (L := L) h.mp ty
  have c0 := h.fb.c0
  have c1 := h.fb.c1
  have c3 := h.fb.c3
  have eq0 := neq_ptr_nil o.blk
  have q := fun n => weight_any e (w.drewN n) hn hd.len (by omega)
  have hew : e.nd.wt ≤ 1048577 := by unfold Nd.wt; omega
  have hm : (p, o) ∈ L := fnd_mem hf
  have hno : NodeAt w o := h.nodes _ hm
  have hos : o.nd.data.length ≤ 1048576 := hsz _ hm
  have hro : Rds w o.dv o.nd.data := h.rds _ hm
  have qo := fun n => weight_any o (w.drewN n) hno hro.len (by omega)
  have how : o.nd.wt ≤ 1048577 := by unfold Nd.wt; omega
  have k0 : ¬ (1000 : Int) < (L.length : Int) := by omega
  have k1 : ¬ (1000 : Int) < (L.length : Int) + 1 - 1 := by omega
  have k2 : ¬ rm < wt + (e.nd.wt : Int) - (o.nd.wt : Int) := by omega
  have HQ : Hid (∀ n, Calls Tryz.prog 50 #[.pointer (some ⟨A, 0, none⟩), .string (mk p), .pointer (some ⟨e.blk, 0, none⟩)] ((w.drewN n).alloc (.cells #[.pointer (some ⟨e.blk, 0, none⟩)] 97)) fun r w' => r = .returned (.tuple #[]) ∧ Fb w' A M (wt - o.nd.wt + e.nd.wt) clk rm ∧ Mp w' M (put L p e) ∧ Turn (Two A M) ((w.drewN n).alloc (.cells #[.pointer (some ⟨e.blk, 0, none⟩)] 97)) w') := by
    intro n
    have hb : Below w.heap.size w ((w.drewN n).alloc (.cells #[.pointer (some ⟨e.blk, 0, none⟩)] 97)) := (below_drewn n).alloc (Nat.le_refl _) _
    have := set_any A M L wt clk rm p e _ (h.below hb) hp (by omega) (by omega) (fun x hx => Nat.le_trans (hsz x hx) (by omega)) ((hb.block _ hn.lt).trans hn) (hd.below hb) (by omega) (by omega)
    have e0 : wtAt L p = o.nd.wt := by unfold wtAt; rw [hf]
    rw [e0] at this
    exact this
  have hA := h.fb.lt
  have hB := hn.lt
  have hAB := node_ne hn h.fb
  have hMB := node_ne_map hn h.mp
  have hML := h.mp.lt
  have HN := hide' hn
  clear h hf hsz hd hes hlen hr hpm hn hno hro hos hm
  go_enter_defers Tryz.func73, Tryz.ntmps73
  go_wp2
  go_quiet ((go_at_call 80; exact Calls.quiet_of_same (q _)))
  go_wp2_with fail
  refine (qo _).mono ?_
  rintro r w0 ⟨rfl, rfl⟩
  go_wp2_with fail
  refine (HQ.out _).mono ?_
  rintro r w1 ⟨rfl, hf1, hm1, ht1⟩
  go_wp2
  have hs := ht1.size
  rw [World.size_alloc] at hs
  have hz : (w.drewN nq).heap.size = w.heap.size := rfl
  have hn1 : NodeAt w1 e := (ht1.block _ (by rw [World.size_alloc]; omega) (fun hs => by rcases hs with h | h; exact hAB h; exact hMB h)).trans ((Below.heap_alloc _ _ _ (by rw [hz]; exact hB)).trans HN.out)
  have cv : w1.cell? ⟨w.heap.size, 0, none⟩ = some (.pointer (some ⟨e.blk, 0, none⟩)) :=
    (World.cell?_of_block (a := ⟨w.heap.size, 0, none⟩) (ht1.block w.heap.size (by rw [World.size_alloc]; omega) (fun hs => by rcases hs with h | h <;> omega))).trans (World.cell?_alloc_at _ _ _ _ (by simp))
  refine leaves_cons (f := 101) (args := #[.pointer (some ⟨A, 0, none⟩), .slice (some ⟨w.heap.size, 0, none⟩) 1 1]) (by simp) (by simp [go_sem]) ?_
  refine (fasten_node A M w.heap.size (put L p e) (wt - o.nd.wt + e.nd.wt) clk rm e .returning w1 hf1 hm1 hn1 hk0 hk1 (by omega) cv).mono ?_
  rintro r u' w'' ⟨rfl, rfl, hf2, hm2, hn2, ht2⟩
  refine ⟨_, results_tmp rfl _ _ _, rfl, hf2, hm2, hn2, ?_⟩
  have hta : Turn (Three A M e.blk) w ((w.drewN nq).alloc (.cells #[.pointer (some ⟨e.blk, 0, none⟩)] 97)) := ((Turn.refl _ w).drewN nq).alloc _
  exact (hta.trans ht1 fun i hi => .inl (by rcases hi with h | h; exact .inl h; exact .inr (.inl h))).trans ht2 fun i hi => .inl (by rcases hi with h | h; exact .inl h; exact .inr (.inr h))
set_option maxRecDepth 100000 in
set_option maxHeartbeats 2000000 in
/-- there is no room: a fault -/
theorem put_full_new (A M : Nat) (L : Ents) (wt clk rm : Int) (p : Bs) (e : En) (w : World) (h : FsAt w A M L wt clk rm) (hf : fnd L p = none) (hp : p.length ≤ 1000) (hw0 : 0 ≤ wt) (hw1 : wt ≤ 1048576) 
    (hn : NodeAt w e) (hd : Rds w e.dv e.nd.data) (hes : e.nd.data.length ≤ 1048576) (hl0 : L.length ≤ 1000000) (hr : 1000 < L.length + 1 ∨ rm < wt + e.nd.wt) :
    Calls Tryz.prog 73 #[.pointer (some ⟨A, 0, none⟩), .string (mk p), .pointer (some ⟨e.blk, 0, none⟩)] w fun r w' => ∃ b, r = .returned (.iface 105 (.pointer (some ⟨b, 0, none⟩))) ∧ Flt w' b 15 ∧ Below w.heap.size w w' := by
  have hpm : p.length ≤ maxLen := by unfold maxLen; omega
  have hl := fun n => Mp.look (w := w.drewN n) (M := M) (L := L) h.mp p hpm
  simp only [hf, Option.map, ptrOf] at hl
  have hln := fun (ty : TypeId) (n : Nat) => Mp.len (w := w.drewN n) (M := M) (L := L) h.mp ty
  have c0 := h.fb.c0
  have c1 := h.fb.c1
  have c3 := h.fb.c3
  have eq0 := neq_nil_nil
  have q := fun n => weight_any e (w.drewN n) hn hd.len (by omega)
  have hew : e.nd.wt ≤ 1048577 := by unfold Nd.wt; omega
  clear h hf hd hes hpm hn
  by_cases k : 1000 < L.length + 1
  · have k1 : (1000 : Int) < (L.length : Int) + 1 := by omega
    clear hr k
    go_enter_defers Tryz.func73, Tryz.ntmps73
    go_wp2
    go_quiet ((go_at_call 80; exact Calls.quiet_of_same (q _)))
    go_wp2
    exact ⟨_, results_tmp rfl _ _ _, w.heap.size, rfl, ⟨_, heap_alloc_new (w.drewN nq) _⟩, (below_drewn nq).alloc (Nat.le_refl _) _⟩
  · have k1 : ¬ (1000 : Int) < (L.length : Int) + 1 := by omega
    have k2 : rm < wt + (e.nd.wt : Int) := by omega
    clear hr k
    go_enter_defers Tryz.func73, Tryz.ntmps73
    go_wp2
    go_quiet ((go_at_call 80; exact Calls.quiet_of_same (q _)))
    go_wp2
    exact ⟨_, results_tmp rfl _ _ _, w.heap.size, rfl, ⟨_, heap_alloc_new (w.drewN nq) _⟩, (below_drewn nq).alloc (Nat.le_refl _) _⟩
set_option maxRecDepth 100000 in
set_option maxHeartbeats 2000000 in
theorem put_full_old (A M : Nat) (L : Ents) (wt clk rm : Int) (p : Bs) (e o : En) (w : World) (h : FsAt w A M L wt clk rm) (hf : fnd L p = some o) (hp : p.length ≤ 1000) (hw0 : 0 ≤ wt) (hw1 : wt ≤ 1048576) 
    (hn : NodeAt w e) (hd : Rds w e.dv e.nd.data) (hes : e.nd.data.length ≤ 1048576) (hl0 : L.length ≤ 1000000) (hos : o.nd.data.length ≤ 1048576) (hr : 1000 < L.length ∨ rm < wt + e.nd.wt - o.nd.wt) :
    Calls Tryz.prog 73 #[.pointer (some ⟨A, 0, none⟩), .string (mk p), .pointer (some ⟨e.blk, 0, none⟩)] w fun r w' => ∃ b, r = .returned (.iface 105 (.pointer (some ⟨b, 0, none⟩))) ∧ Flt w' b 15 ∧ Below w.heap.size w w' := by
  have hpm : p.length ≤ maxLen := by unfold maxLen; omega
  have hl := fun n => Mp.look (w := w.drewN n) (M := M) (L := L) h.mp p hpm
  simp only [hf, Option.map, ptrOf] at hl
  have hln := fun (ty : TypeId) (n : Nat) => Mp.len (w := w.drewN n) (M := M) (L := L) h.mp ty
  have c0 := h.fb.c0
  have c1 := h.fb.c1
  have c3 := h.fb.c3
  have eq0 := neq_ptr_nil o.blk
  have q := fun n => weight_any e (w.drewN n) hn hd.len (by omega)
  have hew : e.nd.wt ≤ 1048577 := by unfold Nd.wt; omega
  have hm : (p, o) ∈ L := fnd_mem hf
  have hno : NodeAt w o := h.nodes _ hm
  have hro : Rds w o.dv o.nd.data := h.rds _ hm
  have qo := fun n => weight_any o (w.drewN n) hno hro.len (by omega)
  have how : o.nd.wt ≤ 1048577 := by unfold Nd.wt; omega
  clear h hf hd hes hpm hn hm hno hro hos
  by_cases k : 1000 < L.length
  · have k1 : (1000 : Int) < (L.length : Int) := by omega
    have k1' : (1000 : Int) < (L.length : Int) + 1 - 1 := by omega
    clear hr k
    go_enter_defers Tryz.func73, Tryz.ntmps73
    go_wp2
    go_quiet ((go_at_call 80; exact Calls.quiet_of_same (q _)))
    go_wp2_with fail
    refine (qo _).mono ?_
    rintro r w0 ⟨rfl, rfl⟩
    go_wp2
    exact ⟨_, results_tmp rfl _ _ _, w.heap.size, rfl, ⟨_, heap_alloc_new (w.drewN nq) _⟩, (below_drewn nq).alloc (Nat.le_refl _) _⟩
  · have k1 : ¬ (1000 : Int) < (L.length : Int) := by omega
    have k1' : ¬ (1000 : Int) < (L.length : Int) + 1 - 1 := by omega
    have k2 : rm < wt + (e.nd.wt : Int) - (o.nd.wt : Int) := by omega
    clear hr k
    go_enter_defers Tryz.func73, Tryz.ntmps73
    go_wp2
    go_quiet ((go_at_call 80; exact Calls.quiet_of_same (q _)))
    go_wp2_with fail
    refine (qo _).mono ?_
    rintro r w0 ⟨rfl, rfl⟩
    go_wp2
    exact ⟨_, results_tmp rfl _ _ _, w.heap.size, rfl, ⟨_, heap_alloc_new (w.drewN nq) _⟩, (below_drewn nq).alloc (Nat.le_refl _) _⟩

/-- there is room for e at p -/
def fits (L : Ents) (p : Bs) (e : En) (wt rm : Int) : Bool := decide ((put L p e).length ≤ 1000) && decide (wt - wtAt L p + e.nd.wt ≤ rm)
/-- (*FS).put -/
theorem put_yes (A M : Nat) (L : Ents) (wt clk rm : Int) (p : Bs) (e : En) (w : World) (h : FsAt w A M L wt clk rm) (hp : p.length ≤ 1000) (hw0 : 0 ≤ wt) (hw1 : wt ≤ 1048576) (hk0 : 0 ≤ clk) (hk1 : clk ≤ 1099511627776000) (hsz : ∀ e ∈ L, e.2.nd.data.length ≤ 1048576)
    (hn : NodeAt w e) (hd : Rds w e.dv e.nd.data) (hes : e.nd.data.length ≤ 1048576) (hr : fits L p e wt rm = true) :
    Calls Tryz.prog 73 #[.pointer (some ⟨A, 0, none⟩), .string (mk p), .pointer (some ⟨e.blk, 0, none⟩)] w fun r w' => r = .returned .nilIface ∧ Fb w' A M (wt - wtAt L p + e.nd.wt) (clk + 1) rm ∧ Mp w' M (put L p e) ∧ NodeAt w' (aged e (clk + 1)) ∧ Turn (Three A M e.blk) w w' := by
  simp only [fits, Bool.and_eq_true, decide_eq_true_eq, put_length] at hr
  have hdl := del_length h.srt p
  unfold wtAt at hr ⊢
  cases hf : fnd L p with
  | none =>
    rw [hf] at hr hdl
    have e0 : wt - ((0 : Nat) : Int) = wt := by omega
    simp only [e0] at hr ⊢
    simp only at hdl
    exact put_new A M L wt clk rm p e w h hf hp hw0 hw1 hk0 hk1 hsz hn hd hes (by omega) hr.2
  | some o =>
    rw [hf] at hr hdl
    exact put_old A M L wt clk rm p e o w h hf hp hw0 hw1 hk0 hk1 hsz hn hd hes (by simp only at hdl; omega) (by have := hr.2; simp only at this; omega)
theorem put_no (A M : Nat) (L : Ents) (wt clk rm : Int) (p : Bs) (e : En) (w : World) (h : FsAt w A M L wt clk rm) (hp : p.length ≤ 1000) (hw0 : 0 ≤ wt) (hw1 : wt ≤ 1048576) (hsz : ∀ e ∈ L, e.2.nd.data.length ≤ 1048576)
    (hn : NodeAt w e) (hd : Rds w e.dv e.nd.data) (hes : e.nd.data.length ≤ 1048576) (hl0 : L.length ≤ 1000000) (hr : fits L p e wt rm = false) :
    Calls Tryz.prog 73 #[.pointer (some ⟨A, 0, none⟩), .string (mk p), .pointer (some ⟨e.blk, 0, none⟩)] w fun r w' => ∃ b, r = .returned (.iface 105 (.pointer (some ⟨b, 0, none⟩))) ∧ Flt w' b 15 ∧ Below w.heap.size w w' := by
  simp only [fits, Bool.and_eq_false_iff, decide_eq_false_iff_not, put_length] at hr
  have hdl := del_length h.srt p
  unfold wtAt at hr
  cases hf : fnd L p with
  | none =>
    rw [hf] at hr hdl
    simp only at hr hdl
    exact put_full_new A M L wt clk rm p e w h hf hp hw0 hw1 hn hd hes hl0 (by omega)
  | some o =>
    rw [hf] at hr hdl
    simp only at hr hdl
    exact put_full_old A M L wt clk rm p e o w h hf hp hw0 hw1 hn hd hes hl0 (hsz _ (fnd_mem hf)) (by omega)
end Go.Proofs.YtabmnkddmdffkaaGreatDoor
