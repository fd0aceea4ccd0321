/- What holds between two rounds of makeWay, and what its steps do to it. makeWay over a chain of directories: all that is missing on the way is made. -/
import Derived.Test.YtbfchadcpokjoaaGreatDoorAZo
import Derived.Test.YtbfchadcpokjoaaGreatDoorAZc
namespace Go.Proofs.YtbfchadcpokjoaaGreatDoor
open Go.RowKit Go.Shelf Go.Maps

/-- the blocks of a file system, no more: none of them is a loop's own -/
theorem fs_sharp {w : World} {S : Nat → Prop} {A : Nat} {T : Tr} {clk rm : Int} (h : IsFs w S A T clk rm) : ∃ S' : Nat → Prop, (∀ i, S' i → S i) ∧ IsFs w S' A T clk rm ∧ ∀ i, S' i → ∃ o : Obj, w.heap[i]? = some o ∧ isBook o = false := by
  obtain ⟨⟨M, L, h1, h2, h3⟩, a, b, c, d⟩ := h
  refine ⟨fun i => i = A ∨ i = M ∨ (∃ e ∈ L, i = e.2.blk) ∨ (∃ e ∈ L, e.2.dv.ownBlock = some i), ?_, ⟨⟨M, L, h1, ⟨.inl rfl, .inr (.inl rfl), fun e he => .inr (.inr (.inl ⟨e, he, rfl⟩)), fun e he g hg => .inr (.inr (.inr ⟨e, he, hg⟩)), h2.dat, h2.apB, h2.apD⟩, h3⟩, a, b, c, d⟩, ?_⟩
  · rintro i (rfl | rfl | ⟨e, he, rfl⟩ | ⟨e, he, hg⟩)
    · exact h2.sA
    · exact h2.sM
    · exact h2.sB e he
    · exact h2.sD e he i hg
  · rintro i (rfl | rfl | ⟨e, he, rfl⟩ | ⟨e, he, hg⟩)
    · exact ⟨_, h1.fb, rfl⟩
    · obtain ⟨es, c, hm⟩ := h1.mp.isMap
      exact ⟨_, hm, rfl⟩
    · exact ⟨_, h1.nodes e he, rfl⟩
    · rcases h2.dat e he with ⟨hv, _⟩ | ⟨g, cap, cur, hv, hgb, _⟩
      · rw [hv] at hg; cases hg
      · rw [hv] at hg
        obtain rfl : g = i := by simpa [Value.ownBlock] using hg
        exact ⟨_, hgb, rfl⟩

/-- the world ahead: the file system's blocks, the call, where they lie -/
structure MwP (w : World) (S : Nat → Prop) (C B N Q : Nat) : Prop where
  lt : ∀ i, S i → i < w.heap.size
  lo : ∀ i, S i → B ≤ i
  nC : ¬ S C
  ltC : C < w.heap.size
  loB : B ≤ w.heap.size
  q1 : w.heap.size + 2 < Q
  q2 : Q + 2 < N
/-- way: the way so far; k: how many directories there are; Q: where the iterator's variables lie -/
structure MwI (w : World) (S : Nat → Prop) (A C B : Nat) (E : Addr) (N : Nat) (y iv ov : Value) (way : Bs) (k : Nat) (W : World) : Prop where
  bc : Boxed W w.heap.size 71 (.pointer (some ⟨C, 0, none⟩))
  be : Boxed W (w.heap.size + 1) 55 .nilIface
  bw : Boxed W (w.heap.size + 2) 9 (.string (mk way))
  call : CallAt W C (.pointer (some ⟨A, 0, none⟩)) y iv ov
  fs : ∃ S', IsFs W S' A (ch k) k 1000 ∧ (∀ i, S' i → S i ∨ N ≤ i) ∧ ∀ i, S' i → ∃ o : Obj, W.heap[i]? = some o ∧ isBook o = false
  turn : Turn S w W
  glo : Glo B W E
  room : N ≤ W.heap.size

section
variable {w : World} {S : Nat → Prop} {A C B : Nat} {E : Addr} {N Q : Nat} {y iv ov : Value} {way : Bs} {k : Nat} {W W' : World}
theorem mw_keep (h : MwI w S A C B E N y iv ov way k W) (p : MwP w S C B N Q) (D : Nat → Prop) (h1 : W'.os = W.os) (h2 : W'.tape = W.tape) (h3 : W'.output = W.output) (h4 : W.heap.size ≤ W'.heap.size) (hk : ∀ i, i < W.heap.size → ¬ D i → W'.heap[i]? = W.heap[i]?)
    (d1 : ∀ i, D i → w.heap.size ≤ i) (d2 : ¬ D w.heap.size ∧ ¬ D (w.heap.size + 1) ∧ ¬ D (w.heap.size + 2)) (d3 : ∀ i, (S i ∨ N ≤ i) → (∃ o : Obj, W.heap[i]? = some o ∧ isBook o = false) → ¬ D i) : MwI w S A C B E N y iv ov way k W' := by
  obtain ⟨S', f1, f2, f3⟩ := h.fs
  have hS : ∀ i, S' i → W'.heap[i]? = W.heap[i]? := fun i hi => by
    obtain ⟨o, ho, hb⟩ := f3 i hi
    exact hk i (Array.getElem?_eq_some_iff.1 ho).1 (d3 i (f2 i hi) ⟨o, ho, hb⟩)
  have hsw := h.turn.size
  have hB : Below B W W' := ⟨h1, h2, h3, h4, fun i hi => hk i (by have := p.loB; omega) (fun hd => by have := d1 i hd; have := p.loB; omega)⟩
  refine ⟨(hk _ h.bc.lt d2.1).trans h.bc, (hk _ h.be.lt d2.2.1).trans h.be, (hk _ h.bw.lt d2.2.2).trans h.bw, (hk C (by have := p.ltC; omega) (fun hd => by have := d1 C hd; have := p.ltC; omega)).trans h.call,
    ⟨S', f1.apart h4 hS, f2, fun i hi => by obtain ⟨o, ho, hb⟩ := f3 i hi; exact ⟨o, (hS i hi).trans ho, hb⟩⟩, ?_, h.glo.keep hB, Nat.le_trans h.room h4⟩
  exact ⟨h1.trans h.turn.os, h2.trans h.turn.tape, h3.trans h.turn.output, Nat.le_trans h.turn.size h4, fun i hi hn => (hk i (by omega) (fun hd => by have := d1 i hd; omega)).trans (h.turn.block i hi hn)⟩
theorem mw_below (h : MwI w S A C B E N y iv ov way k W) (p : MwP w S C B N Q) (hb : Below W.heap.size W W') : MwI w S A C B E N y iv ov way k W' :=
  mw_keep h p (fun _ => False) hb.os hb.tape hb.output hb.size (fun i hi _ => hb.block i hi) (fun _ h => h.elim) ⟨id, id, id⟩ (fun _ _ _ => id)
theorem mw_own (p : MwP w S C B N Q) (M : Nat) (hM : w.heap.size ≤ M) {β : Type} (f : β → Bs) (g : β → Nat) : OwnB M (fun s W => MwI w S A C B E N y iv ov (f s) (g s) W) := fun s X Y row hs hg hr =>
  mw_keep hs p (fun i => row = some i) hg.os hg.tape hg.output hg.size (fun i hi hd => hg.block i hi (fun e => hd e.symm)) (fun i hi => Nat.le_trans hM (hr i hi).1)
    ⟨fun e => (by obtain ⟨_, o, ho, hb⟩ := hr _ e; rw [show X.heap[w.heap.size]? = _ from hs.bc] at ho; cases ho; cases hb),
     fun e => (by obtain ⟨_, o, ho, hb⟩ := hr _ e; rw [show X.heap[w.heap.size + 1]? = _ from hs.be] at ho; cases ho; cases hb),
     fun e => (by obtain ⟨_, o, ho, hb⟩ := hr _ e; rw [show X.heap[w.heap.size + 2]? = _ from hs.bw] at ho; cases ho; cases hb)⟩
    (fun i _ ⟨o, ho, hb⟩ e => by obtain ⟨_, o', ho', hb'⟩ := hr _ e; rw [ho] at ho'; cases ho'; rw [hb] at hb'; cases hb')
theorem mw_iter (h : MwI w S A C B E N y iv ov way k W) (p : MwP w S C B N Q) (v : Value) : MwI w S A C B E N y iv ov way k (W.setCell ⟨Q, 0, none⟩ v) :=
  have hg := grownBy_setCell' W Q v
  mw_keep h p (fun i => i = Q) hg.os hg.tape hg.output hg.size (fun i _ hd => Below.heap_setCell _ _ _ _ hd) (fun i hi => by have := p.q1; omega) ⟨by have := p.q1; omega, by have := p.q1; omega, by have := p.q1; omega⟩
    (fun i hi _ e => by
      subst e
      rcases hi with hi | hi
      · have := p.lt _ hi; have := p.q1; omega
      · have := p.q2; omega)
theorem mw_way (h : MwI w S A C B E N y iv ov way k W) (p : MwP w S C B N Q) (way' : Bs) : MwI w S A C B E N y iv ov way' k (W.setCell ⟨w.heap.size + 2, 0, none⟩ (.string (mk way'))) := by
  have hg := grownBy_setCell' W (w.heap.size + 2) (.string (mk way'))
  obtain ⟨S', f1, f2, f3⟩ := h.fs
  have hne : ∀ i, S' i → i ≠ w.heap.size + 2 := fun i hi e => by
    rcases f2 i hi with hi | hi
    · have := p.lt _ hi; omega
    · have := p.q1; have := p.q2; omega
  have hS : ∀ i, S' i → (W.setCell ⟨w.heap.size + 2, 0, none⟩ (.string (mk way'))).heap[i]? = W.heap[i]? := fun i hi => Below.heap_setCell _ _ _ _ (hne i hi)
  have hsw := h.turn.size
  exact ⟨h.bc.kept hg (by simp), h.be.kept hg (by simp), h.bw.set _, (Below.heap_setCell _ _ _ _ (by have := p.ltC; simp; omega)).trans h.call,
    ⟨S', f1.apart hg.size hS, f2, fun i hi => by obtain ⟨o, ho, hb⟩ := f3 i hi; exact ⟨o, (hS i hi).trans ho, hb⟩⟩,
    ⟨h.turn.os, h.turn.tape, h.turn.output, Nat.le_trans h.turn.size hg.size, fun i hi hn => (Below.heap_setCell _ _ _ _ (by simp; omega)).trans (h.turn.block i hi hn)⟩,
    h.glo.keep ((Below.refl B W).setCell (p := ⟨w.heap.size + 2, 0, none⟩) (by have := p.loB; simp; omega) _), Nat.le_trans h.room hg.size⟩
theorem mw_err (h : MwI w S A C B E N y iv ov way k W) (p : MwP w S C B N Q) : MwI w S A C B E N y iv ov way k (W.setCell ⟨w.heap.size + 1, 0, none⟩ .nilIface) := by
  have hg := grownBy_setCell' W (w.heap.size + 1) .nilIface
  obtain ⟨S', f1, f2, f3⟩ := h.fs
  have hne : ∀ i, S' i → i ≠ w.heap.size + 1 := fun i hi e => by
    rcases f2 i hi with hi | hi
    · have := p.lt _ hi; omega
    · have := p.q1; have := p.q2; omega
  have hS : ∀ i, S' i → (W.setCell ⟨w.heap.size + 1, 0, none⟩ .nilIface).heap[i]? = W.heap[i]? := fun i hi => Below.heap_setCell _ _ _ _ (hne i hi)
  have hsw := h.turn.size
  exact ⟨h.bc.kept hg (by simp), h.be.set _, h.bw.kept hg (by simp), (Below.heap_setCell _ _ _ _ (by have := p.ltC; simp; omega)).trans h.call,
    ⟨S', f1.apart hg.size hS, f2, fun i hi => by obtain ⟨o, ho, hb⟩ := f3 i hi; exact ⟨o, (hS i hi).trans ho, hb⟩⟩,
    ⟨h.turn.os, h.turn.tape, h.turn.output, Nat.le_trans h.turn.size hg.size, fun i hi hn => (Below.heap_setCell _ _ _ _ (by simp; omega)).trans (h.turn.block i hi hn)⟩,
    h.glo.keep ((Below.refl B W).setCell (p := ⟨w.heap.size + 1, 0, none⟩) (by have := p.loB; simp; omega) _), Nat.le_trans h.room hg.size⟩
/-- a directory more -/
theorem mw_made (h : MwI w S A C B E N y iv ov way k W) (p : MwP w S C B N Q) {S' S2 : Nat → Prop} {k' : Nat} (f2 : ∀ i, S' i → S i ∨ N ≤ i) (f3 : ∀ i, S' i → ∃ o : Obj, W.heap[i]? = some o ∧ isBook o = false)
    (g1 : IsFs W' S2 A (ch k') k' 1000) (g2 : Turn S' W W') (g3 : ∀ i, S2 i → S' i ∨ W.heap.size ≤ i) : MwI w S A C B E N y iv ov way k' W' ∧ Kbk W W' ∧ SKp Q W W' := by
  obtain ⟨S3, s1, s2, s3⟩ := fs_sharp g1
  have hsw := h.turn.size
  have hrm := h.room
  have no : ∀ i, w.heap.size ≤ i → i < N → ¬ S' i := fun i h1 h2 hi => by
    rcases f2 i hi with hi | hi
    · have := p.lt _ hi; omega
    · omega
  have q1 := p.q1
  have q2 := p.q2
  have nC : ¬ S' C := fun hi => by
    rcases f2 C hi with hi | hi
    · exact p.nC hi
    · have := p.ltC; omega
  have hB : Below B W W' := g2.below (by have := p.loB; omega) (fun i hi => by
    rcases f2 i hi with hi | hi
    · exact p.lo _ hi
    · have := p.loB; omega)
  refine ⟨⟨(g2.block _ h.bc.lt (no _ (by omega) (by omega))).trans h.bc, (g2.block _ h.be.lt (no _ (by omega) (by omega))).trans h.be, (g2.block _ h.bw.lt (no _ (by omega) (by omega))).trans h.bw, (g2.block C (by have := p.ltC; omega) nC).trans h.call,
    ⟨S3, s2, fun i hi => ?_, s3⟩, h.turn.trans g2 (fun i hi => ?_), h.glo.keep hB, Nat.le_trans h.room g2.size⟩, ⟨g2.size, fun i o hi ho => ?_⟩, fun i hi => g2.block i (by omega) (no i (by omega) (by omega))⟩
  · rcases g3 i (s1 i hi) with hi | hi
    · exact f2 i hi
    · exact .inr (by omega)
  · rcases f2 i hi with hi | hi
    · exact .inl hi
    · exact .inr (by omega)
  · refine (g2.block i (Array.getElem?_eq_some_iff.1 hi).1 (fun hs => ?_)).trans hi
    obtain ⟨o', ho', hb⟩ := f3 i hs
    rw [hi] at ho'; cases ho'; rw [ho] at hb; cases hb
end
end Go.Proofs.YtbfchadcpokjoaaGreatDoor
namespace Go.Proofs.YtbfchadcpokjoaaGreatDoor
open Go.RowKit Go.Shelf Go.Maps
attribute [local go_sem] Oper.semAt_some

/-- a chain of k directories, behind a call -/
def ChOk (S : Nat → Prop) (A k : Nat) (w w' : World) : Prop := ∃ S', IsFs w' S' A (ch k) k 1000 ∧ Turn S w w' ∧ ∀ i, S' i → S i ∨ w.heap.size ≤ i
set_option maxRecDepth 100000 in
set_option maxHeartbeats 2000000 in
theorem makeWay_any (B A C : Nat) (E : Addr) (m j : Nat) (hm1 : 1 ≤ m) (hm : m ≤ 20) (hj : j ≤ m) (S : Nat → Prop) (y iv ov : Value) (w : World) (hC : CallAt w C (.pointer (some ⟨A, 0, none⟩)) y iv ov) (h : IsFs w S A (ch j) j 1000) (hG : Glo B w E) (hB : B ≤ w.heap.size) (hS : ∀ i, S i → B ≤ i) (hlt : ∀ i, S i → i < w.heap.size) (hnC : ¬ S C) :
    Calls Tryz.prog 96 #[.pointer (some ⟨C, 0, none⟩), .string (mk (dp m))] w fun r w' => r = .returned .nilIface ∧ ChOk S A m w w' := by
  have kcl := fun w => clean_any (mk (dp m)) (by rw [mk_size]; have := dp_len m; omega) w
  rw [tl_mk, dp_clean m hm] at kcl
  have hCl := lt_of_block hC
  have HFS := hide' h
  have HCC := hide' hC
  have HG := hide' hG
  clear h hC hG
  refine (callsIn_wide (n := 5)).1 ?_
  refine callsIn_of_wp_marks Tryz.func96 rfl trivial ?_ rfl
  simp only [Tryz.ntmps96, List.size_toArray, List.length_cons, List.length_nil, Nat.reduceAdd, Nat.reduceSub, Array.replicate_succ, Array.replicate_zero, List.push_toArray, List.append_toArray, List.nil_append, List.cons_append]
  gi_wp2_with (first | (refine ⟨trivial, ?_⟩; gi_at_call 23; refine (callsIn_wide.2 (kcl _)).mono ?_; rintro e w1 ⟨rfl, hb1⟩) | (refine ⟨trivial, ?_⟩; gi_at_call 124; refine (callsIn_wide.2 (splitSeq_any _ _)).mono ?_; rintro e w' ⟨rfl, rfl⟩))
  obtain ⟨Wa, hWa⟩ : ∃ Wa, Wa = ((w.alloc (Obj.cells #[Value.pointer (some ⟨C, 0, none⟩)] 71)).alloc (Obj.cells #[Value.nilIface] 55)).alloc (Obj.cells #[Value.string ⟨#[]⟩] 9) := ⟨_, rfl⟩
  rw [← hWa] at hb1
  obtain ⟨W0, hW0⟩ : ∃ W0, W0 = ((w1.alloc (Obj.cells #[Value.string (mk (dp m))] 9)).alloc (Obj.cells #[Value.string ⟨#[47]⟩] 9)).alloc (Obj.cells #[Value.int IntKind.i64 0] 3) := ⟨_, rfl⟩
  rw [← hW0]
  have hsa : Wa.heap.size = w.heap.size + 3 := by rw [hWa]; simp
  have hs1 := hb1.size
  have hs0 : W0.heap.size = w1.heap.size + 3 := by rw [hW0]; simp
  have hba : Below w.heap.size w Wa := by rw [hWa]; exact (((Below.refl _ w).alloc (Nat.le_refl _) _).alloc (by simp) _).alloc (by simp; omega) _
  have hb0 : Below w1.heap.size w1 W0 := by rw [hW0]; exact (((Below.refl _ w1).alloc (Nat.le_refl _) _).alloc (by simp) _).alloc (by simp; omega) _
  have hbw : Below w.heap.size w W0 := (hba.trans (hb1.mono (by omega))).trans (hb0.mono (by omega))
  have hba0 : Below Wa.heap.size Wa W0 := hb1.trans (hb0.mono hs1)
  have a1 : Boxed Wa w.heap.size 71 (.pointer (some ⟨C, 0, none⟩)) := by rw [hWa]; exact ((Boxed.new w 71 _).alloc _).alloc _
  have a2 : Boxed Wa (w.heap.size + 1) 55 .nilIface := by
    have := (Boxed.new (w.alloc (Obj.cells #[Value.pointer (some ⟨C, 0, none⟩)] 71)) 55 .nilIface).alloc (Obj.cells #[Value.string ⟨#[]⟩] 9)
    rw [World.size_alloc, ← hWa] at this
    exact this
  have a3 : Boxed Wa (w.heap.size + 2) 9 (.string (mk (dp 0))) := by
    have := Boxed.new ((w.alloc (Obj.cells #[Value.pointer (some ⟨C, 0, none⟩)] 71)).alloc (Obj.cells #[Value.nilIface] 55)) 9 (.string ⟨#[]⟩)
    rw [World.size_alloc, World.size_alloc, ← hWa] at this
    exact this
  have b1 : Boxed W0 w1.heap.size 9 (.string (mk (dp m))) := by rw [hW0]; exact ((Boxed.new w1 9 _).alloc _).alloc _
  have b2 : Boxed W0 (w1.heap.size + 1) 9 (.string ⟨#[47]⟩) := by
    have := (Boxed.new (w1.alloc (Obj.cells #[Value.string (mk (dp m))] 9)) 9 (.string ⟨#[47]⟩)).alloc (Obj.cells #[Value.int IntKind.i64 0] 3)
    rw [World.size_alloc, ← hW0] at this
    exact this
  have b3 : Boxed W0 (w1.heap.size + 1 + 1) 3 (.int .i64 0) := by
    have := Boxed.new ((w1.alloc (Obj.cells #[Value.string (mk (dp m))] 9)).alloc (Obj.cells #[Value.string ⟨#[47]⟩] 9)) 3 (.int .i64 0)
    rw [World.size_alloc, World.size_alloc, ← hW0] at this
    exact this
  have p : MwP w S C B W0.heap.size w1.heap.size := ⟨hlt, hS, hnC, hCl, hB, by omega, by omega⟩
  obtain ⟨S1, s1, s2, s3⟩ := fs_sharp (HFS.out.below hbw)
  have hI0 : MwI w S A C B E W0.heap.size y iv ov (dp 0) (max j 0) W0 := ⟨(hba0.block _ a1.lt).trans a1, (hba0.block _ a2.lt).trans a2, (hba0.block _ a3.lt).trans a3, (hbw.block C hCl).trans HCC.out,
    ⟨S1, by rw [Nat.max_zero]; exact s2, fun i hi => .inl (s1 i hi), s3⟩, Turn.of_below hbw, HG.out.keep (hbw.mono hB), Nat.le_refl _⟩
  have hseq := split_seq 4 (by decide) m w1.heap.size hm1 hm W0 ⟨b1, b2, b3⟩
  clear hWa hW0 hb1 hba hb0 hbw hba0 a1 a2 a3 b1 b2 b3 s2 s3 s1 kcl
  refine range_bk rfl (by decide) (gf := 179) (lb := #[.pointer (some ⟨w1.heap.size + 1, 0, none⟩), .pointer (some ⟨w1.heap.size, 0, none⟩), .pointer (some ⟨w1.heap.size + 1 + 1, 0, none⟩)]) rfl trivial (enters_of Tryz.func179 (by kernel_rfl) rfl)
    hseq (fun h k i hi => (k i hi).trans (h i hi)) (fun W l o' hl i hi => World.putObj_heap_other (by omega)) (fun X Y e => by obtain ⟨v, rfl⟩ := e; exact Kbk.setCell _ _ _) (fun _ => rfl)
    (fun pre W => MwI w S A C B E W0.heap.size y iv ov (dp pre.length) (max j pre.length) W) (fun _ _ _ => False) (mw_own p _ (by omega) (fun pre : List Unit => dp pre.length) (fun pre => max j pre.length)) (fun _ _ _ _ _ hs _ _ => hs)
    (fun pre X Y h e => by obtain ⟨v, rfl⟩ := e; exact mw_iter h p _) (fun _ _ _ _ h _ => h) hI0
    (fun x => { tmps := #[.pointer (some ⟨C, 0, none⟩), .string (mk (dp m)), .pointer (some ⟨w.heap.size, 0, none⟩), undef, .pointer (some ⟨w.heap.size + 1, 0, none⟩), .pointer (some ⟨w.heap.size + 1 + 1, 0, none⟩), .string ⟨#[100]⟩, undef, .string (mk (dp m)), .string (mk (dp m)), .func (.func 179) #[] #[.pointer (some ⟨w1.heap.size + 1, 0, none⟩), .pointer (some ⟨w1.heap.size, 0, none⟩), .pointer (some ⟨w1.heap.size + 1 + 1, 0, none⟩)], .string ⟨#[100]⟩, undef, undef, undef, undef, undef, undef, undef, undef, undef, undef, undef, undef], defers := [] }) ?assign ?body ?done ?stop
  case assign =>
    intro l x W K hK
    gi_wp2
    exact hK
  case body =>
    rintro l pre x W hpl hI
    obtain ⟨i, hi⟩ : ∃ i, i = pre.length := ⟨_, rfl⟩
    have hi1 : (pre ++ [x]).length = i + 1 := by simp [hi]
    rw [← hi] at hI hpl
    have HI1 := hide' hi1
    clear hi hi1
    have k1 := joinp_any (dp i) [100] (by have := dp_len i; omega) (by simp)
    rw [dp_join i (by omega), show mk [100] = ⟨#[100]⟩ from rfl] at k1
    have c1 : W.cell? ⟨w.heap.size + 1 + 1, 0, none⟩ = some (.string (mk (dp i))) := hI.bw.cell
    have hfin : ∀ W' : World, MwI w S A C B E W0.heap.size y iv ov (dp (i + 1)) (max j (i + 1)) W' → Kbk W W' → SKp w1.heap.size W W' → ownPostB (SKp w1.heap.size) (fun pre W => MwI w S A C B E W0.heap.size y iv ov (dp (List.length pre)) (max j (List.length pre)) W) (fun _ _ _ => False) (pre ++ [x]) W .normal { tmps := #[], defers := [] } W' := fun W' q1 q2 q3 => ⟨q2, q3, by show MwI w S A C B E W0.heap.size y iv ov (dp (pre ++ [x]).length) (max j (pre ++ [x]).length) W'; rw [HI1.out]; exact q1⟩
    have HFIN := hide' hfin
    have HI := hide' hI
    clear hfin hI hseq hI0 HFS HCC HG hsa
    gi_wp2_with (refine ⟨trivial, ?_⟩; gi_at_call 118; refine (CallsIn.inRound l (callsIn_wide.2 (k1 _))).mono ?_)
    rintro e W1 ⟨rfl, hb1⟩
    have hI1 := mw_below HI.out p hb1
    have f1 : W1.frozen? ⟨w.heap.size + 1 + 1, 0, none⟩ = false := hI1.bw.frozen
    have f2 : W1.cell? ⟨w.heap.size + 1 + 1, 0, none⟩ = some (.string (mk (dp i))) := hI1.bw.cell
    have hI2 := mw_way hI1 p (dp (i + 1))
    obtain ⟨W2, hW2⟩ : ∃ W2, W2 = W1.setCell ⟨w.heap.size + 1 + 1, 0, none⟩ (.string (mk (dp (i + 1)))) := ⟨_, rfl⟩
    change MwI w S A C B E W0.heap.size y iv ov (dp (i + 1)) (max j i) (W1.setCell ⟨w.heap.size + 1 + 1, 0, none⟩ (.string (mk (dp (i + 1))))) at hI2
    rw [← hW2] at hI2
    have hk2 : Kbk W W2 := (Kbk.below hb1).trans (by rw [hW2]; exact Kbk.setCell _ _ _)
    have hp2 : SKp w1.heap.size W W2 := fun t ht => by
      have hq1 := p.q1
      have hq2 := p.q2
      have hrm := HI.out.room
      rw [hW2]
      exact (Below.heap_setCell _ _ _ _ (by simp; omega)).trans (hb1.block t (by omega))
    obtain ⟨S', g1, g2, g3⟩ := hI2.fs
    have hBW : B ≤ W2.heap.size := by have := hI2.turn.size; omega
    have hloS : ∀ t, S' t → B ≤ t := fun t ht => by
      rcases g2 t ht with h | h
      · exact hS t h
      · have := p.q1; have := p.q2; omega
    have hsz : (mk (dp (i + 1))).size ≤ 400000 := by rw [mk_size]; have := dp_len (i + 1); omega
    have kd := isDir_any B A C E (ch (max j i)) ((max j i : Nat) : Int) 1000 (mk (dp (i + 1))) S' y iv ov W2 hI2.call g1 hI2.glo hBW hsz
    rw [tl_mk, dp_clean (i + 1) (by omega), ch_isdir (max j i) (i + 1) (by omega) (by omega) (by omega)] at kd
    have d1 : W2.cell? ⟨w.heap.size, 0, none⟩ = some (.pointer (some ⟨C, 0, none⟩)) := hI2.bc.cell
    have d2 : W2.cell? ⟨w.heap.size + 1 + 1, 0, none⟩ = some (.string (mk (dp (i + 1)))) := hI2.bw.cell
    rw [hW2] at d1 d2 kd
    have HW2 := hide' hW2
    have HI2 := hide' hI2
    have HG := hide' (And.intro g1 (And.intro g2 g3))
    clear hW2 hI2 hI1 g1 g2 g3 HI k1 c1 hb1
    gi_wp2_with (refine ⟨trivial, ?_⟩; gi_at_call 117; refine (CallsIn.inRound l (callsIn_wide.2 kd)).mono ?_)
    rintro e W3 ⟨rfl, hb3⟩
    rw [← HW2.out] at hb3
    have hI3 := mw_below HI2.out p hb3
    have hk3 : Kbk W W3 := hk2.trans (Kbk.below hb3)
    have hp3 : SKp w1.heap.size W W3 := fun t ht => (hb3.block t (by have := p.q1; have := p.q2; have := HI2.out.room; omega)).trans (hp2 t ht)
    by_cases hd : i + 1 ≤ j
    · rw [show decide (i + 1 ≤ max j i) = true from decide_eq_true (by omega)]
      have hmx : max j i = max j (i + 1) := by omega
      rw [hmx] at hI3
      have hF := HFIN.out W3 hI3 hk3 hp3
      clear hI3 kd d1 d2
      gi_wp2
      exact hF
    · rw [show decide (i + 1 ≤ max j i) = false from decide_eq_false (by omega)]
      have hmx : max j i = i := by omega
      have hmx2 : max j (i + 1) = i + 1 := by omega
      rw [hmx] at hI3
      rw [hmx2] at HFIN
      obtain ⟨S3, e1, e2, e3⟩ := hI3.fs
      have hlo3 : ∀ t, S3 t → B ≤ t := fun t ht => by
        rcases e2 t ht with h | h
        · exact hS t h
        · have := p.q1; have := p.q2; omega
      have kmk := makeDir_any B A C E (ch i) i 1000 (mk (dp (i + 1))) S3 y iv ov W3 hI3.call e1 hI3.glo (by have := hI3.turn.size; omega) hlo3 (by omega) hsz
      rw [tl_mk, dp_clean (i + 1) (by omega), ch_mk i (by omega)] at kmk
      have c1 : W3.cell? ⟨w.heap.size, 0, none⟩ = some (.pointer (some ⟨C, 0, none⟩)) := hI3.bc.cell
      have c2 : W3.cell? ⟨w.heap.size + 1 + 1, 0, none⟩ = some (.string (mk (dp (i + 1)))) := hI3.bw.cell
      have HI3 := hide' hI3
      clear hI3 kd d1 d2
      gi_wp2_with (refine ⟨trivial, ?_⟩; gi_at_call 97; refine (CallsIn.inRound l (callsIn_wide.2 kmk)).mono ?_)
      rintro e W4 ⟨he, S4, g1, g2, g3⟩
      rcases he with ⟨_, rfl⟩ | ⟨hne, _⟩
      · obtain ⟨r1, r2, r3⟩ := mw_made HI3.out p e2 e3 g1 g2 g3
        have hF := HFIN.out W4 r1 (hk3.trans r2) (fun t ht => (r3 t ht).trans (hp3 t ht))
        have hnn := neq_nil57
        clear r1 r2 r3 g1 g2 g3 kmk c1 c2
        gi_wp2
        exact hF
      · exact absurd rfl hne
  case done =>
    rintro D ys W hD hys hI hK
    rw [hys, Nat.max_eq_right hj] at hI
    have c1 := hI.be.cell
    have f1 := hI.be.frozen
    have hI2 := mw_err hI p
    have hK2 : (W.setCell ⟨w.heap.size + 1, 0, none⟩ .nilIface).heap[D]? = some (.deferred (some [])) := (KeepsOthers.setCell W _ _).same D _ hK rfl
    have hI3 : MwI w S A C B E W0.heap.size y iv ov (dp m) m ((W.setCell ⟨w.heap.size + 1, 0, none⟩ .nilIface).putObj D (.deferred none)) := (mw_own p W0.heap.size (by omega) (fun _ : Unit => dp m) (fun _ => m)).putObj (s := ()) (.deferred none) hI2 hD hK2 rfl
    have c3 := hI3.be.cell
    have HI3 := hide' hI3
    clear hI hI2 hI3 hseq hI0
    gi_wp2
    refine ⟨by simp, .inl ⟨_, _, rfl, run_takeDeferred hK2, ?_⟩⟩
    refine ⟨.nilIface, by simp [results, Tryz.results96, go_sem, c3], rfl, ?_⟩
    obtain ⟨S', e1, e2, _⟩ := HI3.out.fs
    refine ⟨S', e1, HI3.out.turn, fun i hi => ?_⟩
    rcases e2 i hi with h | h
    · exact .inl h
    · exact .inr (by omega)
  case stop =>
    rintro D c pre W _ _ h _
    exact h.elim
end Go.Proofs.YtbfchadcpokjoaaGreatDoor
