/- The law's Do: both stores do one call, answer alike, and are alike again. -/
import Derived.Test.YtillechackcbpaaRe
namespace Go.Proofs.Ytillechackcbpaa
open Go.RowKit Go.Maps

theorem Kb.rf {w w' : World} {R : Nat} {v : Value} {L : Vs} (k : Kb w w') (h : Rf w R v L) : Rf w' R v L :=
  h.keep ((k R _ 30 _ (by decide) h.rb).trans h.rb.symm) fun g hg => by
    obtain ⟨cur, hc⟩ := h.row.elem g hg
    exact (k g _ 36 _ (by decide) hc).trans hc.symm
/-- the blocks of the reference's store -/
def Or (R : Nat) (v : Value) : Nat → Prop := fun k => k = R ∨ v.ownBlock = some k
theorem St.off {w : World} {A : Nat} {m : Option Nat} {L L' : Vs} {R : Nat} {v : Value} (h : St w A m L) (r : Rf w R v L') : ∀ k, Ow A m k → ¬ Or R v k := by
  intro k hk hr
  have hkind : (∃ cs, w.heap[k]? = some (.cells cs 54 (0, 0))) ∨ ∃ es c, w.heap[k]? = some (.map es c) := by
    rcases hk with rfl | rfl
    · exact .inl ⟨_, h.sb⟩
    · exact .inr (Mp.isMap h.mp)
  have hkind2 : ∃ cs T, T ≠ 54 ∧ w.heap[k]? = some (.cells cs T (0, 0)) := by
    rcases hr with rfl | hr
    · exact ⟨_, 30, by decide, r.rb⟩
    · obtain ⟨cur, hc⟩ := r.row.elem k hr
      exact ⟨cur, 36, by decide, hc⟩
  obtain ⟨cs, T, hT, h2⟩ := hkind2
  rcases hkind with ⟨cs', h1⟩ | ⟨es, c, h1⟩
  · rw [h1] at h2
    simp only [Option.some.injEq, Obj.cells.injEq] at h2
    exact hT h2.2.1.symm
  · rw [h1] at h2; cases h2
theorem RChg.st {w w' : World} {R : Nat} {v v' : Value} {L L1 L' : Vs} {A : Nat} {m : Option Nat} (c : RChg w w' R v v' L') (r : Rf w R v L1) (h : St w A m L) : St w' A m L :=
  h.keep (c.turn.block A h.sb.lt fun hk => h.off r A (.inl rfl) hk) fun M hM => c.turn.block M (h.mp.lt M hM) fun hk => h.off r M (.inr hM) hk
/-- both stores, alike -/
structure Both (w : World) (A : Nat) (m : Option Nat) (R : Nat) (v : Value) (L : Vs) : Prop where
  st : St w A m L
  rf : Rf w R v L
theorem Both.below {w w' : World} {A : Nat} {m : Option Nat} {R : Nat} {v : Value} {L : Vs} (h : Both w A m R v L) (hb : Below w.heap.size w w') : Both w' A m R v L := ⟨h.st.below hb, h.rf.below hb⟩
/-- .. and what a call of both leaves -/
structure BChg (w w' : World) (A : Nat) (m m' : Option Nat) (R : Nat) (v v' : Value) (L : Vs) : Prop where
  both : Both w' A m' R v' L
  turn : Turn (fun k => Ow A m k ∨ Or R v k) w w'
  ownM : ∀ k, m' = some k → m = some k ∨ w.heap.size ≤ k
  ownV : ∀ g, v'.ownBlock = some g → v.ownBlock = some g ∨ w.heap.size ≤ g
theorem BChg.after {w w1 w' : World} {A : Nat} {m m' : Option Nat} {R : Nat} {v v' : Value} {L : Vs} (hb : Below w.heap.size w w1) (h : BChg w1 w' A m m' R v v' L) : BChg w w' A m m' R v v' L :=
  ⟨h.both, (Turn.of_below hb).trans' h.turn, fun k e => (h.ownM k e).imp id fun h1 => Nat.le_trans hb.size h1, fun k e => (h.ownV k e).imp id fun h1 => Nat.le_trans hb.size h1⟩
theorem BChg.then {w w1 w' : World} {A : Nat} {m m' : Option Nat} {R : Nat} {v v' : Value} {L : Vs} (h : BChg w w1 A m m' R v v' L) (hb : Below w1.heap.size w1 w') : BChg w w' A m m' R v v' L :=
  ⟨h.both.below hb, h.turn.trans' (Turn.of_below hb), h.ownM, h.ownV⟩
theorem BChg.same {w w' : World} {A : Nat} {m : Option Nat} {R : Nat} {v : Value} {L : Vs} (h : Both w A m R v L) (hb : Below w.heap.size w w') : BChg w w' A m m R v v L :=
  ⟨h.below hb, Turn.of_below hb, fun _ e => .inl e, fun _ e => .inl e⟩
theorem both_step {w w1 w' : World} {A : Nat} {m m' : Option Nat} {R : Nat} {v v' : Value} {L L' : Vs} (h : Both w A m R v L) (c : Chg w w1 A m m' L') (d : RChg w1 w' R v v' L') : BChg w w' A m m' R v v' L' :=
  ⟨⟨d.st ((Chg.kb h.st c).rf h.rf) c.st, d.rf⟩, (c.turn.mono fun _ h => .inl h).trans' (d.turn.mono fun _ h => .inr h), c.own, fun g e => (d.own g e).imp id fun h1 => Nat.le_trans c.turn.size h1⟩
/-- a call of a store -/
structure Ov where
  kind : Int
  nm : Bs
  vl : Bs
  flav : Int
  orig : Int
/-- a call in a block of its own -/
def Ox (w : World) (b : Nat) (x : Ov) : Prop := w.heap[b]? = some (.cells #[.int .i64 x.kind, .string (mk x.nm), .string (mk x.vl), .int .i64 x.flav, .int .i64 x.orig] 34 (0, 0))
theorem Ox.c1 {w : World} {b : Nat} {x : Ov} (h : Ox w b x) : w.cell? ⟨b, 1, none⟩ = some (.string (mk x.nm)) := by unfold Ox at h; rw [Lib.cell_of_heap h]; rfl
theorem Ox.c2 {w : World} {b : Nat} {x : Ov} (h : Ox w b x) : w.cell? ⟨b, 2, none⟩ = some (.string (mk x.vl)) := by unfold Ox at h; rw [Lib.cell_of_heap h]; rfl
theorem Ox.c3 {w : World} {b : Nat} {x : Ov} (h : Ox w b x) : w.cell? ⟨b, 3, none⟩ = some (.int .i64 x.flav) := by unfold Ox at h; rw [Lib.cell_of_heap h]; rfl
theorem Ox.below {w w' : World} {b : Nat} {x : Ov} (h : Ox w b x) (hb : Below w.heap.size w w') : Ox w' b x := (hb.block b (lt_of_block h)).trans h
theorem Ox.kb {w w' : World} {b : Nat} {x : Ov} (h : Ox w b x) (k : Kb w w') : Ox w' b x := k b _ 34 _ (by decide) h
theorem Ox.rchg {w w' : World} {b : Nat} {x : Ov} {R : Nat} {v v' : Value} {L L' : Vs} (h : Ox w b x) (r : Rf w R v L) (c : RChg w w' R v v' L') : Ox w' b x := by
  refine (c.turn.block b (lt_of_block h) fun hk => ?_).trans h
  unfold Ox at h
  rcases hk with rfl | hk
  · have := r.rb
    unfold Rb at this
    rw [this] at h
    simp at h
  · obtain ⟨cur, hc⟩ := r.row.elem b hk
    rw [hc] at h
    simp at h
def ovV (x : Ov) : Value := .agg #[.int .i64 x.kind, .string (mk x.nm), .string (mk x.vl), .int .i64 x.flav, .int .i64 x.orig]
/-- no value is longer than T -/
def Bnd (T : Nat) (L : Vs) : Prop := ∀ e ∈ L, e.2.value.length ≤ T
theorem Bnd.mono {T T' : Nat} {L : Vs} (h : Bnd T L) (ht : T ≤ T') : Bnd T' L := fun e he => Nat.le_trans (h e he) ht
theorem Bnd.put {T : Nat} {L : Vs} (h : Bnd T L) (x : Vr) (hx : x.value.length ≤ T) : Bnd T (putIf L x) := by
  unfold putIf
  split
  · intro e he
    rcases mem_put.1 he with rfl | he
    · exact hx
    · exact h e he.1
  · exact h
theorem Bnd.set {T : Nat} {L : Vs} (h : Bnd T L) (p v : Bs) (f o : Int) (hv : v.length ≤ T) : Bnd T (setL L p v f o) := by
  unfold setL
  split
  · exact h
  · exact h.put _ hv
theorem Bnd.get {T : Nat} {L : Vs} (h : Bnd T L) (p : Bs) : (getV L p).value.length ≤ T := by
  unfold getV
  cases hf : fnd L p with
  | none => exact Nat.zero_le _
  | some x => exact h _ (fnd_mem hf)
theorem Bnd.app {T : Nat} {L : Vs} (h : Bnd T L) (p v : Bs) : (appV L p v).length ≤ T + 1 + v.length := by
  unfold appV
  have := h.get p
  split
  · rw [List.length_append, List.length_cons]; omega
  · omega
theorem Bnd.und {T : Nat} {L : Vs} (h : Bnd T L) (p : Bs) (o : Int) : Bnd T (undL L p o) := by
  unfold undL
  split
  · exact h
  · exact fun e he => h e (mem_del.1 he).1
theorem Bnd.exp {T : Nat} {L : Vs} (h : Bnd T L) (p : Bs) (how : Int) : Bnd T (expL L p how) := by
  unfold expL
  split
  · exact h
  · refine h.put _ ?_
    split
    · exact h.get p
    · exact Nat.zero_le _
/-- what Do leaves -/
def DoR (w w' : World) (A : Nat) (m : Option Nat) (R : Nat) (v : Value) (L : Vs) (n : Nat) : Prop := ∃ m' v' L', BChg w w' A m m' R v v' L' ∧ ∀ T, Bnd T L → Bnd (T + 1 + n) L'
set_option maxRecDepth 100000 in
set_option maxHeartbeats 4000000 in
theorem do_set (A : Nat) (m : Option Nat) (R : Nat) (v : Value) (L : Vs) (x : Ov) (w : World) (h : Both w A m R v L) (hn : x.nm.length ≤ 1000000) (hl : x.vl.length ≤ 1000000) (hk : x.kind.tmod 5 = 0) :
    Calls Try.prog 12 #[.pointer (some ⟨A, 0, none⟩), .pointer (some ⟨R, 0, none⟩), ovV x] w fun r w' => r = .returned (.bool true) ∧ DoR w w' A m R v L x.vl.length := by
  obtain ⟨kd, nm, vl, fl, og⟩ := x
  dsimp only at hn hl hk ⊢
  dsimp only [ovV]
  have hB : Below w.heap.size w (w.alloc (.cells #[.int .i64 kd, .string (mk nm), .string (mk vl), .int .i64 fl, .int .i64 og] 34)) := below_alloc (Below.refl _ _) (Nat.le_refl _) _
  have H := hide' (h.below hB)
  have hX : Ox (w.alloc (.cells #[.int .i64 kd, .string (mk nm), .string (mk vl), .int .i64 fl, .int .i64 og] 34)) w.heap.size ⟨kd, nm, vl, fl, og⟩ := heap_alloc_new w _
  have HX := hide' hX
  have HB := hide' hB
  obtain ⟨W, hW⟩ : ∃ W, W = (w.alloc (.cells #[.int .i64 kd, .string (mk nm), .string (mk vl), .int .i64 fl, .int .i64 og] 34)).drew := ⟨_, rfl⟩
  have hbW : Both W A m R v L := by rw [hW]; exact ⟨H.out.st.keep rfl fun _ _ => rfl, H.out.rf.keep rfl fun _ _ => rfl⟩
  have hXW : Ox W w.heap.size ⟨kd, nm, vl, fl, og⟩ := by rw [hW]; exact hX
  have hBW : Hid (Below w.heap.size w W) := by rw [hW]; exact hB.drew
  clear h hX hB
  go_enter Try.func12, Try.ntmps12
  go_wp2
  generalize wrap64 (1 + bits BinOp.and IntKind.i64 fl 1) = F
  generalize wrap64 (1 + (bits BinOp.and IntKind.i64 og 7).tmod 7) = O
  refine wp_region_class (C := fun W => Ox W w.heap.size ⟨kd, nm, vl, fl, og⟩) (by kernel_rfl) ?_
  rw [← hW]
  clear hW H HX
  have q1 := set_any A m L nm vl F O W hbW.st hn hl
  have HBW := hide' hbW
  have HXW := hide' hXW
  clear hbW hXW
  (refine wpAnyC_take (i := 0) (v := ?_) HXW.out rfl (by kernel_rfl) (by kernel_rfl) (by kernel_rfl) (fun _ _ _ h => h) (Or.inl ⟨by kernel_rfl, ?_⟩) ?_; rotate_left; (intro w hc; have x1 := hc.c1; have x2 := hc.c2; clear hc; go_simp; try with_reducible rfl))
  (refine wpAnyC_take (i := 1) (v := ?_) HXW.out rfl (by kernel_rfl) (by kernel_rfl) (by kernel_rfl) (fun _ _ _ h => h) (Or.inl ⟨by kernel_rfl, ?_⟩) ?_; rotate_left; (intro w hc; have x1 := hc.c1; have x2 := hc.c2; clear hc; go_simp; try with_reducible rfl))
  (refine wpAnyC_take (i := 2) (v := ?_) HXW.out rfl (by kernel_rfl) (by kernel_rfl) (by kernel_rfl) (fun _ _ _ h => h) (Or.inl ⟨by kernel_rfl, ?_⟩) ?_; rotate_left; (intro w hc; have x1 := hc.c1; have x2 := hc.c2; clear hc; go_simp; try with_reducible rfl))
  (refine wpAnyC_take (i := 3) (v := ?_) HXW.out rfl (by kernel_rfl) (by kernel_rfl) (by kernel_rfl) (fun _ _ _ h => h) (Or.inl ⟨by kernel_rfl, ?_⟩) ?_; rotate_left; (intro w hc; have x1 := hc.c1; have x2 := hc.c2; clear hc; go_simp; try with_reducible rfl))
  (refine wpAnyC_take (i := 4) (v := ?_) HXW.out rfl (by kernel_rfl) (by kernel_rfl) (by kernel_rfl) (fun _ _ _ h => h) (Or.inl ⟨by kernel_rfl, ?_⟩) ?_; rotate_left; (intro w hc; have x1 := hc.c1; have x2 := hc.c2; clear hc; go_simp; try with_reducible rfl))
  (refine wpAnyC_take (i := 5) (v := ?_) HXW.out rfl (by kernel_rfl) (by kernel_rfl) (by kernel_rfl) (fun _ _ _ h => h) (Or.inl ⟨by kernel_rfl, ?_⟩) ?_; rotate_left; (intro w hc; have x1 := hc.c1; have x2 := hc.c2; clear hc; go_simp; try with_reducible rfl))
  (refine wpAnyC_take (i := 6) (v := ?_) HXW.out rfl (by kernel_rfl) (by kernel_rfl) (by kernel_rfl) (fun _ _ _ h => h) (Or.inl ⟨by kernel_rfl, ?_⟩) ?_; rotate_left; (intro w hc; have x1 := hc.c1; have x2 := hc.c2; clear hc; go_simp; try with_reducible rfl))
  go_simp
  (refine wpAnyC_take (i := 8) (v := ?_) HXW.out rfl (by kernel_rfl) (by kernel_rfl) (by kernel_rfl) (fun _ _ _ h => h) (Or.inl ⟨by kernel_rfl, ?_⟩) ?_; rotate_left; (intro w hc; have x1 := hc.c1; have x2 := hc.c2; clear hc; go_simp; try with_reducible rfl))
  (refine wpAnyC_take (i := 9) (v := ?_) HXW.out rfl (by kernel_rfl) (by kernel_rfl) (by kernel_rfl) (fun _ _ _ h => h) (Or.inl ⟨by kernel_rfl, ?_⟩) ?_; rotate_left; (intro w hc; have x1 := hc.c1; have x2 := hc.c2; clear hc; go_simp; try with_reducible rfl))
  (refine wpAnyC_take (i := 10) (v := ?_) HXW.out rfl (by kernel_rfl) (by kernel_rfl) (by kernel_rfl) (fun _ _ _ h => h) (Or.inl ⟨by kernel_rfl, ?_⟩) ?_; rotate_left; (intro w hc; have x1 := hc.c1; have x2 := hc.c2; clear hc; go_simp; try with_reducible rfl))
  (refine wpAnyC_take (i := 11) (v := ?_) HXW.out rfl (by kernel_rfl) (by kernel_rfl) (by kernel_rfl) (fun _ _ _ h => h) (Or.inl ⟨by kernel_rfl, ?_⟩) ?_; rotate_left; (intro w hc; have x1 := hc.c1; have x2 := hc.c2; clear hc; go_simp; try with_reducible rfl))
  (refine wpAnyC_take (i := 12) (v := ?_) HXW.out rfl (by kernel_rfl) (by kernel_rfl) (by kernel_rfl) (fun _ _ _ h => h) (Or.inl ⟨by kernel_rfl, ?_⟩) ?_; rotate_left; (intro w hc; have x1 := hc.c1; have x2 := hc.c2; clear hc; go_simp; try with_reducible rfl))
  (refine wpAnyC_take (i := 13) (v := ?_) HXW.out rfl (by kernel_rfl) (by kernel_rfl) (by kernel_rfl) (fun _ _ _ h => h) (Or.inl ⟨by kernel_rfl, ?_⟩) ?_; rotate_left; (intro w hc; have x1 := hc.c1; have x2 := hc.c2; clear hc; go_simp; try with_reducible rfl))
  (refine wpAnyC_take (i := 14) (v := ?_) HXW.out rfl (by kernel_rfl) (by kernel_rfl) (by kernel_rfl) (fun _ _ _ h => h) (Or.inl ⟨by kernel_rfl, ?_⟩) ?_; rotate_left; (intro w hc; have x1 := hc.c1; have x2 := hc.c2; clear hc; go_simp; try with_reducible rfl))
  refine wpAnyC_one (i := 7) (by kernel_rfl) (wpOp_wanted rfl (by rfl) ?_)
  go_simp
  refine q1.mono ?_
  rintro r w1 ⟨rfl, m', hc1⟩
  dsimp only
  have hX1 := HXW.out.kb (Chg.kb HBW.out.st hc1)
  have hR1 := (Chg.kb HBW.out.st hc1).rf HBW.out.rf
  have q2 := rset_any R v L nm vl F O w1 hR1
  have HC1 := hide' hc1
  have HX1 := hide' hX1
  have HR1 := hide' hR1
  refine ⟨hX1, ?_⟩
  clear hc1 hX1 hR1 q1
  refine wpAnyC_one (i := 15) (by kernel_rfl) (wpOp_wanted rfl (by rfl) ?_)
  go_simp
  refine q2.mono ?_
  rintro r w2 ⟨rfl, v', hc2⟩
  dsimp only
  have hX2 := HX1.out.rchg HR1.out hc2
  have hend := both_step HBW.out HC1.out hc2
  refine ⟨hX2, ?_⟩
  refine wpAnyC_one (i := 16) (by kernel_rfl) (wpOp_wanted rfl (by rfl) ?_)
  go_simp
  refine wpAnyC_one (i := 17) (by kernel_rfl) (wpOp_wanted rfl (by rfl) ?_)
  go_simp
  refine wpAnyC_done (by kernel_rfl) ?_ _
  have HEND := hide' (BChg.after hBW.out hend)
  clear hend hX2 hc2
  go_wp2
  go_ret
  exact ⟨rfl, m', v', _, HEND.out, fun T hT => (hT.mono (by omega)).set nm vl F O (by omega)⟩
set_option maxRecDepth 100000 in
set_option maxHeartbeats 4000000 in
theorem do_app (A : Nat) (m : Option Nat) (R : Nat) (v : Value) (L : Vs) (x : Ov) (w : World) (h : Both w A m R v L) (hn : x.nm.length ≤ 1000000) (hl : x.vl.length ≤ 1000000) (hg : (getV L x.nm).value.length + 1 + x.vl.length ≤ 1000000) (hk : x.kind.tmod 5 = 1) :
    Calls Try.prog 12 #[.pointer (some ⟨A, 0, none⟩), .pointer (some ⟨R, 0, none⟩), ovV x] w fun r w' => r = .returned (.bool true) ∧ DoR w w' A m R v L x.vl.length := by
  obtain ⟨kd, nm, vl, fl, og⟩ := x
  dsimp only at hn hl hk hg ⊢
  dsimp only [ovV]
  have hB : Below w.heap.size w (w.alloc (.cells #[.int .i64 kd, .string (mk nm), .string (mk vl), .int .i64 fl, .int .i64 og] 34)) := below_alloc (Below.refl _ _) (Nat.le_refl _) _
  have H := hide' (h.below hB)
  have hX : Ox (w.alloc (.cells #[.int .i64 kd, .string (mk nm), .string (mk vl), .int .i64 fl, .int .i64 og] 34)) w.heap.size ⟨kd, nm, vl, fl, og⟩ := heap_alloc_new w _
  have HX := hide' hX
  have HB := hide' hB
  obtain ⟨W, hW⟩ : ∃ W, W = (w.alloc (.cells #[.int .i64 kd, .string (mk nm), .string (mk vl), .int .i64 fl, .int .i64 og] 34)).drew := ⟨_, rfl⟩
  have hbW : Both W A m R v L := by rw [hW]; exact ⟨H.out.st.keep rfl fun _ _ => rfl, H.out.rf.keep rfl fun _ _ => rfl⟩
  have hXW : Ox W w.heap.size ⟨kd, nm, vl, fl, og⟩ := by rw [hW]; exact hX
  have hBW : Hid (Below w.heap.size w W) := by rw [hW]; exact hB.drew
  clear h hX hB
  go_enter Try.func12, Try.ntmps12
  go_wp2
  generalize wrap64 (1 + bits BinOp.and IntKind.i64 fl 1) = F
  generalize wrap64 (1 + (bits BinOp.and IntKind.i64 og 7).tmod 7) = O
  refine wp_region_class (C := fun W => Ox W w.heap.size ⟨kd, nm, vl, fl, og⟩) (by kernel_rfl) ?_
  rw [← hW]
  clear hW H HX
  have q1 := app_any A m L nm vl O W hbW.st hn hg
  have HBW := hide' hbW
  have HXW := hide' hXW
  clear hbW hXW
  (refine wpAnyC_take (i := 0) (v := ?_) HXW.out rfl (by kernel_rfl) (by kernel_rfl) (by kernel_rfl) (fun _ _ _ h => h) (Or.inl ⟨by kernel_rfl, ?_⟩) ?_; rotate_left; (intro w hc; have x1 := hc.c1; have x2 := hc.c2; clear hc; go_simp; try with_reducible rfl))
  (refine wpAnyC_take (i := 1) (v := ?_) HXW.out rfl (by kernel_rfl) (by kernel_rfl) (by kernel_rfl) (fun _ _ _ h => h) (Or.inl ⟨by kernel_rfl, ?_⟩) ?_; rotate_left; (intro w hc; have x1 := hc.c1; have x2 := hc.c2; clear hc; go_simp; try with_reducible rfl))
  (refine wpAnyC_take (i := 2) (v := ?_) HXW.out rfl (by kernel_rfl) (by kernel_rfl) (by kernel_rfl) (fun _ _ _ h => h) (Or.inl ⟨by kernel_rfl, ?_⟩) ?_; rotate_left; (intro w hc; have x1 := hc.c1; have x2 := hc.c2; clear hc; go_simp; try with_reducible rfl))
  (refine wpAnyC_take (i := 3) (v := ?_) HXW.out rfl (by kernel_rfl) (by kernel_rfl) (by kernel_rfl) (fun _ _ _ h => h) (Or.inl ⟨by kernel_rfl, ?_⟩) ?_; rotate_left; (intro w hc; have x1 := hc.c1; have x2 := hc.c2; clear hc; go_simp; try with_reducible rfl))
  (refine wpAnyC_take (i := 4) (v := ?_) HXW.out rfl (by kernel_rfl) (by kernel_rfl) (by kernel_rfl) (fun _ _ _ h => h) (Or.inl ⟨by kernel_rfl, ?_⟩) ?_; rotate_left; (intro w hc; have x1 := hc.c1; have x2 := hc.c2; clear hc; go_simp; try with_reducible rfl))
  (refine wpAnyC_take (i := 5) (v := ?_) HXW.out rfl (by kernel_rfl) (by kernel_rfl) (by kernel_rfl) (fun _ _ _ h => h) (Or.inl ⟨by kernel_rfl, ?_⟩) ?_; rotate_left; (intro w hc; have x1 := hc.c1; have x2 := hc.c2; clear hc; go_simp; try with_reducible rfl))
  go_simp
  (refine wpAnyC_take (i := 7) (v := ?_) HXW.out rfl (by kernel_rfl) (by kernel_rfl) (by kernel_rfl) (fun _ _ _ h => h) (Or.inl ⟨by kernel_rfl, ?_⟩) ?_; rotate_left; (intro w hc; have x1 := hc.c1; have x2 := hc.c2; clear hc; go_simp; try with_reducible rfl))
  (refine wpAnyC_take (i := 8) (v := ?_) HXW.out rfl (by kernel_rfl) (by kernel_rfl) (by kernel_rfl) (fun _ _ _ h => h) (Or.inl ⟨by kernel_rfl, ?_⟩) ?_; rotate_left; (intro w hc; have x1 := hc.c1; have x2 := hc.c2; clear hc; go_simp; try with_reducible rfl))
  (refine wpAnyC_take (i := 9) (v := ?_) HXW.out rfl (by kernel_rfl) (by kernel_rfl) (by kernel_rfl) (fun _ _ _ h => h) (Or.inl ⟨by kernel_rfl, ?_⟩) ?_; rotate_left; (intro w hc; have x1 := hc.c1; have x2 := hc.c2; clear hc; go_simp; try with_reducible rfl))
  (refine wpAnyC_take (i := 10) (v := ?_) HXW.out rfl (by kernel_rfl) (by kernel_rfl) (by kernel_rfl) (fun _ _ _ h => h) (Or.inl ⟨by kernel_rfl, ?_⟩) ?_; rotate_left; (intro w hc; have x1 := hc.c1; have x2 := hc.c2; clear hc; go_simp; try with_reducible rfl))
  (refine wpAnyC_take (i := 11) (v := ?_) HXW.out rfl (by kernel_rfl) (by kernel_rfl) (by kernel_rfl) (fun _ _ _ h => h) (Or.inl ⟨by kernel_rfl, ?_⟩) ?_; rotate_left; (intro w hc; have x1 := hc.c1; have x2 := hc.c2; clear hc; go_simp; try with_reducible rfl))
  (refine wpAnyC_take (i := 12) (v := ?_) HXW.out rfl (by kernel_rfl) (by kernel_rfl) (by kernel_rfl) (fun _ _ _ h => h) (Or.inl ⟨by kernel_rfl, ?_⟩) ?_; rotate_left; (intro w hc; have x1 := hc.c1; have x2 := hc.c2; clear hc; go_simp; try with_reducible rfl))
  refine wpAnyC_one (i := 6) (by kernel_rfl) (wpOp_wanted rfl (by rfl) ?_)
  go_simp
  refine q1.mono ?_
  rintro r w1 ⟨rfl, m', hc1⟩
  dsimp only
  have hX1 := HXW.out.kb (Chg.kb HBW.out.st hc1)
  have hR1 := (Chg.kb HBW.out.st hc1).rf HBW.out.rf
  have q2 := rapp_any R v L nm vl O w1 hR1 hg
  have HC1 := hide' hc1
  have HX1 := hide' hX1
  have HR1 := hide' hR1
  refine ⟨hX1, ?_⟩
  clear hc1 hX1 hR1 q1
  refine wpAnyC_one (i := 13) (by kernel_rfl) (wpOp_wanted rfl (by rfl) ?_)
  go_simp
  refine q2.mono ?_
  rintro r w2 ⟨rfl, v', hc2⟩
  dsimp only
  have hX2 := HX1.out.rchg HR1.out hc2
  have hend := both_step HBW.out HC1.out hc2
  refine ⟨hX2, ?_⟩
  refine wpAnyC_one (i := 14) (by kernel_rfl) (wpOp_wanted rfl (by rfl) ?_)
  go_simp
  refine wpAnyC_one (i := 15) (by kernel_rfl) (wpOp_wanted rfl (by rfl) ?_)
  go_simp
  refine wpAnyC_done (by kernel_rfl) ?_ _
  have HEND := hide' (BChg.after hBW.out hend)
  clear hend hX2 hc2
  go_wp2
  go_ret
  exact ⟨rfl, m', v', _, HEND.out, fun T hT => (hT.mono (by omega)).set nm _ _ O (hT.app nm vl)⟩
set_option maxRecDepth 100000 in
set_option maxHeartbeats 4000000 in
theorem do_und (A : Nat) (m : Option Nat) (R : Nat) (v : Value) (L : Vs) (x : Ov) (w : World) (h : Both w A m R v L) (hn : x.nm.length ≤ 1000000) (hl : x.vl.length ≤ 1000000) (hk : x.kind.tmod 5 = 2) :
    Calls Try.prog 12 #[.pointer (some ⟨A, 0, none⟩), .pointer (some ⟨R, 0, none⟩), ovV x] w fun r w' => r = .returned (.bool true) ∧ DoR w w' A m R v L x.vl.length := by
  obtain ⟨kd, nm, vl, fl, og⟩ := x
  dsimp only at hn hl hk ⊢
  dsimp only [ovV]
  have hB : Below w.heap.size w (w.alloc (.cells #[.int .i64 kd, .string (mk nm), .string (mk vl), .int .i64 fl, .int .i64 og] 34)) := below_alloc (Below.refl _ _) (Nat.le_refl _) _
  have H := hide' (h.below hB)
  have hX : Ox (w.alloc (.cells #[.int .i64 kd, .string (mk nm), .string (mk vl), .int .i64 fl, .int .i64 og] 34)) w.heap.size ⟨kd, nm, vl, fl, og⟩ := heap_alloc_new w _
  have HX := hide' hX
  have HB := hide' hB
  obtain ⟨W, hW⟩ : ∃ W, W = (w.alloc (.cells #[.int .i64 kd, .string (mk nm), .string (mk vl), .int .i64 fl, .int .i64 og] 34)).drew := ⟨_, rfl⟩
  have hbW : Both W A m R v L := by rw [hW]; exact ⟨H.out.st.keep rfl fun _ _ => rfl, H.out.rf.keep rfl fun _ _ => rfl⟩
  have hXW : Ox W w.heap.size ⟨kd, nm, vl, fl, og⟩ := by rw [hW]; exact hX
  have hBW : Hid (Below w.heap.size w W) := by rw [hW]; exact hB.drew
  clear h hX hB
  go_enter Try.func12, Try.ntmps12
  go_wp2
  generalize wrap64 (1 + bits BinOp.and IntKind.i64 fl 1) = F
  generalize wrap64 (1 + (bits BinOp.and IntKind.i64 og 7).tmod 7) = O
  refine wp_region_class (C := fun W => Ox W w.heap.size ⟨kd, nm, vl, fl, og⟩) (by kernel_rfl) ?_
  rw [← hW]
  clear hW H HX
  have q1 := und_any A m L nm O W hbW.st hn
  have HBW := hide' hbW
  have HXW := hide' hXW
  clear hbW hXW
  (refine wpAnyC_take (i := 0) (v := ?_) HXW.out rfl (by kernel_rfl) (by kernel_rfl) (by kernel_rfl) (fun _ _ _ h => h) (Or.inl ⟨by kernel_rfl, ?_⟩) ?_; rotate_left; (intro w hc; have x1 := hc.c1; have x2 := hc.c2; clear hc; go_simp; try with_reducible rfl))
  (refine wpAnyC_take (i := 1) (v := ?_) HXW.out rfl (by kernel_rfl) (by kernel_rfl) (by kernel_rfl) (fun _ _ _ h => h) (Or.inl ⟨by kernel_rfl, ?_⟩) ?_; rotate_left; (intro w hc; have x1 := hc.c1; have x2 := hc.c2; clear hc; go_simp; try with_reducible rfl))
  (refine wpAnyC_take (i := 2) (v := ?_) HXW.out rfl (by kernel_rfl) (by kernel_rfl) (by kernel_rfl) (fun _ _ _ h => h) (Or.inl ⟨by kernel_rfl, ?_⟩) ?_; rotate_left; (intro w hc; have x1 := hc.c1; have x2 := hc.c2; clear hc; go_simp; try with_reducible rfl))
  (refine wpAnyC_take (i := 3) (v := ?_) HXW.out rfl (by kernel_rfl) (by kernel_rfl) (by kernel_rfl) (fun _ _ _ h => h) (Or.inl ⟨by kernel_rfl, ?_⟩) ?_; rotate_left; (intro w hc; have x1 := hc.c1; have x2 := hc.c2; clear hc; go_simp; try with_reducible rfl))
  go_simp
  (refine wpAnyC_take (i := 5) (v := ?_) HXW.out rfl (by kernel_rfl) (by kernel_rfl) (by kernel_rfl) (fun _ _ _ h => h) (Or.inl ⟨by kernel_rfl, ?_⟩) ?_; rotate_left; (intro w hc; have x1 := hc.c1; have x2 := hc.c2; clear hc; go_simp; try with_reducible rfl))
  (refine wpAnyC_take (i := 6) (v := ?_) HXW.out rfl (by kernel_rfl) (by kernel_rfl) (by kernel_rfl) (fun _ _ _ h => h) (Or.inl ⟨by kernel_rfl, ?_⟩) ?_; rotate_left; (intro w hc; have x1 := hc.c1; have x2 := hc.c2; clear hc; go_simp; try with_reducible rfl))
  (refine wpAnyC_take (i := 7) (v := ?_) HXW.out rfl (by kernel_rfl) (by kernel_rfl) (by kernel_rfl) (fun _ _ _ h => h) (Or.inl ⟨by kernel_rfl, ?_⟩) ?_; rotate_left; (intro w hc; have x1 := hc.c1; have x2 := hc.c2; clear hc; go_simp; try with_reducible rfl))
  (refine wpAnyC_take (i := 8) (v := ?_) HXW.out rfl (by kernel_rfl) (by kernel_rfl) (by kernel_rfl) (fun _ _ _ h => h) (Or.inl ⟨by kernel_rfl, ?_⟩) ?_; rotate_left; (intro w hc; have x1 := hc.c1; have x2 := hc.c2; clear hc; go_simp; try with_reducible rfl))
  refine wpAnyC_one (i := 4) (by kernel_rfl) (wpOp_wanted rfl (by rfl) ?_)
  go_simp
  refine q1.mono ?_
  rintro r w1 ⟨rfl, hc1⟩
  dsimp only
  have hX1 := HXW.out.kb (Chg.kb HBW.out.st hc1)
  have hR1 := (Chg.kb HBW.out.st hc1).rf HBW.out.rf
  have q2 := rund_any R v L nm O w1 hR1
  have HC1 := hide' hc1
  have HX1 := hide' hX1
  have HR1 := hide' hR1
  refine ⟨hX1, ?_⟩
  clear hc1 hX1 hR1 q1
  refine wpAnyC_one (i := 9) (by kernel_rfl) (wpOp_wanted rfl (by rfl) ?_)
  go_simp
  refine q2.mono ?_
  rintro r w2 ⟨rfl, v', hc2⟩
  dsimp only
  have hX2 := HX1.out.rchg HR1.out hc2
  have hend := both_step HBW.out HC1.out hc2
  refine ⟨hX2, ?_⟩
  refine wpAnyC_one (i := 10) (by kernel_rfl) (wpOp_wanted rfl (by rfl) ?_)
  go_simp
  refine wpAnyC_one (i := 11) (by kernel_rfl) (wpOp_wanted rfl (by rfl) ?_)
  go_simp
  refine wpAnyC_done (by kernel_rfl) ?_ _
  have HEND := hide' (BChg.after hBW.out hend)
  clear hend hX2 hc2
  go_wp2
  go_ret
  exact ⟨rfl, m, v', _, HEND.out, fun T hT => (hT.und nm O).mono (by omega)⟩
end Go.Proofs.Ytillechackcbpaa
