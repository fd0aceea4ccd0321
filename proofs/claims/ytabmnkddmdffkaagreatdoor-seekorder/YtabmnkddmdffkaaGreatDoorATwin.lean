/- The contract of (*FS).Twin. -/
import Derived.Test.YtabmnkddmdffkaaGreatDoorAKd
import Derived.Test.YtabmnkddmdffkaaGreatDoorAPub
import Derived.Test.YtabmnkddmdffkaaGreatDoorAFloat
namespace Go.Proofs.YtabmnkddmdffkaaGreatDoor
open Go.RowKit Go.Maps

/-- two rising lists in which the same is found are one -/
theorem srt_ext {α : Type} : ∀ {L L' : List (Bs × α)}, Srt L → Srt L' → (∀ p, fnd L p = fnd L' p) → L = L'
  | [], [], _, _, _ => rfl
  | [], y :: r, _, _, h => by have := h y.1; rw [fnd_cons, if_pos rfl] at this; cases this
  | y :: r, [], _, _, h => by have := h y.1; rw [fnd_cons, if_pos rfl] at this; cases this
  | x :: r, y :: s, h1, h2, h => by
    obtain ⟨a1, a2⟩ := List.pairwise_cons.1 h1
    obtain ⟨b1, b2⟩ := List.pairwise_cons.1 h2
    have key : x.1 = y.1 := by
      rcases before_total x.1 y.1 with q | q | q
      · have := h x.1
        rw [fnd_cons, if_pos rfl] at this
        have hm := fnd_mem this.symm
        rcases List.mem_cons.1 hm with e | e
        · rw [← e] at q; rw [before_irrefl] at q; cases q
        · have := before_trans _ _ _ q (b1 _ e); rw [before_irrefl] at this; cases this
      · exact q
      · have := h y.1
        rw [fnd_cons (x := y), if_pos rfl] at this
        have hm := fnd_mem this
        rcases List.mem_cons.1 hm with e | e
        · rw [← e] at q; rw [before_irrefl] at q; cases q
        · have := before_trans _ _ _ q (a1 _ e); rw [before_irrefl] at this; cases this
    have hv : x.2 = y.2 := by
      have := h x.1
      rw [fnd_cons, if_pos rfl, fnd_cons, if_pos key.symm] at this
      exact Option.some.inj this
    have hrest : r = s := by
      refine srt_ext a2 b2 fun p => ?_
      have := h p
      rw [fnd_cons, fnd_cons] at this
      by_cases e : x.1 = p
      · have n1 : fnd r p = none := fnd_none_of fun z hz e2 => before_ne (a1 z hz) (e.trans e2.symm)
        have n2 : fnd s p = none := fnd_none_of fun z hz e2 => before_ne (b1 z hz) (key.symm.trans (e.trans e2.symm))
        rw [n1, n2]
      · rw [if_neg e, if_neg (fun e2 => e (key.trans e2))] at this
        exact this
    rw [hrest]
    congr 1
    exact Prod.ext key hv

/-- what is copied so far -/
def Copied (L : Ents) (ss : List Bs) (L2 : Ents) : Prop := ∀ p, fnd (nds L2) p = if p ∈ ss then fnd (nds L) p else none
theorem Copied.step {L L2 : Ents} {ss : List Bs} (h : Copied L ss L2) {x : Bs} {e e2 : En} (hf : fnd L x = some e) (hn : e2.nd = e.nd) : Copied L (ss ++ [x]) (put L2 x e2) := by
  intro p
  rw [nds_put]
  by_cases hp : p = x
  · subst hp
    rw [fnd_put_same, if_pos (by simp), nds_fnd, hf, hn]; rfl
  · rw [fnd_put_other _ _ (Ne.symm hp), h p]
    by_cases hs : p ∈ ss
    · rw [if_pos hs, if_pos (by simp [hs])]
    · rw [if_neg hs, if_neg (by simp [hs, hp])]
theorem run_mk66 (n : Int) (w : World) : (Instr.makeMap 92 (some (.int .i64 n))).run Tryz.prog w = .ok (.map (some w.heap.size)) (w.alloc (.map #[] 0)) := by
  simp [Instr.makeMap, run_underlying Tryz.underlying92, asInt, asIntOf, Result.andThen]
/-- the class of worlds in a round -/
structure TwC (b G M2 : Nat) (d : Bool) (t : Int) (dv : Value) (w : World) : Prop where
  c0 : w.cell? ⟨b, 0, none⟩ = some (.bool d)
  c1 : w.cell? ⟨b, 1, none⟩ = some (.int .i64 t)
  c2 : w.cell? ⟨b, 2, none⟩ = some dv
  cg : w.cell? ⟨G, 0, none⟩ = some (.map (some M2))

theorem alloc_new (w : World) (o : Obj) : (w.alloc o).heap[w.heap.size]? = some o := by show (w.heap.push o)[w.heap.size]? = some o; simp
theorem tw_put {W : World} {b0 G M2 : Nat} {L2 : Ents} {wt clk rm : Int} {x bs : Bs} {d : Bool} {t : Int} {v' : Value} (hf : FsAt W G M2 L2 wt clk rm) (ho : Own W (fun i => b0 ≤ i) G M2 L2) (hx : x.length ≤ 1000) (hd : Dat W v' bs)
    (hn : ∀ g, v'.ownBlock = some g → b0 ≤ g ∧ ∀ y ∈ L2, y.2.dv.ownBlock ≠ some g) (hb0 : b0 ≤ W.heap.size) {W2 : World} (hm : Mp W2 M2 (put L2 x ⟨W.heap.size, v', ⟨d, t, bs⟩⟩)) (hg : (W.alloc (.cells #[.bool d, .int .i64 t, v'] 99)).grownBy W2 (some M2)) :
    FsAt W2 G M2 (put L2 x ⟨W.heap.size, v', ⟨d, t, bs⟩⟩) wt clk rm ∧ Own W2 (fun i => b0 ≤ i) G M2 (put L2 x ⟨W.heap.size, v', ⟨d, t, bs⟩⟩) := by
  have hbl : Below W.heap.size W (W.alloc (.cells #[.bool d, .int .i64 t, v'] 99)) := (Below.refl _ _).alloc (Nat.le_refl _) _
  have hf1 := hf.below hbl
  have ho1 := ho.below hbl
  have hn1 : NodeAt (W.alloc (.cells #[.bool d, .int .i64 t, v'] 99)) ⟨W.heap.size, v', ⟨d, t, bs⟩⟩ := alloc_new _ _
  have hd1 : Dat (W.alloc (.cells #[.bool d, .int .i64 t, v'] 99)) v' bs := hd.kept fun g hg => hbl.block g (hd.lt g hg)
  have hne : M2 ≠ W.heap.size := fun e => by have := hf.mp.lt; omega
  have hMG := hf1.mp.ne hf1.fb
  have hn2 : NodeAt W2 ⟨W.heap.size, v', ⟨d, t, bs⟩⟩ := (hg.block W.heap.size (by simp) (fun e => hne (Option.some.inj e).symm)).trans hn1
  have hfb2 : Fb W2 G M2 wt clk rm := hf1.fb.kept (hg.block G hf1.fb.lt (fun e => hMG (Option.some.inj e).symm))
  obtain ⟨r1, r2⟩ := fs_put (w3 := W2) (t := t) hf1 (ho1.sub fun e he => (mem_del.1 he).1) hx hn1 hd1 (fun y hy e => by have := (hf.nodes y (mem_del.1 hy).1).lt; dsimp at e; omega)
    (fun y hy g hg e => (hn g e).2 y (mem_del.1 hy).1 hg) hfb2 hm hn2 (Turn.of_grown hg fun k hk => by cases hk; exact .inr (.inl rfl))
  refine ⟨r1, ⟨ho.sA, ho.sM, fun e he => ?_, fun e he g hg => ?_, r2.dat, r2.apB, r2.apD⟩⟩
  · rcases r2.sB e he with q | q | q
    · exact q
    · rw [q]; exact hb0
    · exact (hn _ q).1
  · rcases r2.sD e he g hg with q | q | q
    · exact q
    · rw [q]; exact hb0
    · exact (hn _ q).1
theorem TwC.below {b G M2 : Nat} {d : Bool} {t : Int} {dv : Value} {w w' : World} (h : TwC b G M2 d t dv w) (hb : Below w.heap.size w w') (h1 : b < w.heap.size) (h2 : G < w.heap.size) : TwC b G M2 d t dv w' :=
  ⟨(hb.cell (p := ⟨b, 0, none⟩) h1).trans h.c0, (hb.cell (p := ⟨b, 1, none⟩) h1).trans h.c1, (hb.cell (p := ⟨b, 2, none⟩) h1).trans h.c2, (hb.cell (p := ⟨G, 0, none⟩) h2).trans h.cg⟩

set_option maxRecDepth 100000 in
set_option maxHeartbeats 2000000 in
theorem Twin_any (A M : Nat) (L : Ents) (wt clk rm : Int) (w : World) (h : FsAt w A M L wt clk rm) (hll : L.length ≤ 1000000) (hsz : ∀ e ∈ L, e.2.nd.data.length ≤ 1099511627776) :
    Calls Tryz.prog 51 #[.pointer (some ⟨A, 0, none⟩)] w fun r w' => ∃ G M' L', r = .returned (.pointer (some ⟨G, 0, none⟩)) ∧ FsAt w' G M' L' wt clk rm ∧ Own w' (fun i => w.heap.size ≤ i) G M' L' ∧ nds L' = nds L ∧ Below w.heap.size w w' := by
  have c0 := h.fb.c0
  have c1 := h.fb.c1
  have c2 := h.fb.c2
  have c3 := h.fb.c3
  have hA := h.fb.lt
  have hMl := h.mp.lt
  have hmm := fun (w : World) => run_mk66 (L.length : Nat) w
  have hln := fun (ty : TypeId) (o : Obj) => Mp.len (w := w.alloc o) (M := M) (L := L) (h.mp.kept (Below.heap_alloc _ _ _ hMl)) ty
  have hzL : Maps.size (datum (blks L) : DataW Unit) = L.length := by rw [datum_size]; simp [blks]
  go_enter Tryz.func51, Tryz.ntmps51
  go_wp2_with fail
  refine (orEmpty_some A _).mono ?_
  rintro r w0 ⟨rfl, rfl⟩
  obtain ⟨w1, hw1⟩ : ∃ w1, w1 = (w0.alloc (.cells #[.map (some (w0.heap.size + 1)), .int .i64 wt, .int .i64 clk, .int .i64 rm] 94)).alloc (.map #[] 0) := ⟨_, rfl⟩
  have hmp1 : Mp w1 M L := by rw [hw1]; exact (h.mp.kept (Below.heap_alloc _ _ _ hMl)).kept (Below.heap_alloc _ _ _ (by simp; omega))
  have hsz1 : w1.heap.size = w0.heap.size + 2 := by rw [hw1]; simp
  have hb1 : Below w0.heap.size w0 w1 := by rw [hw1]; exact ((Below.refl _ _).alloc (Nat.le_refl _) _).alloc (by simp) _
  have hfs1 : FsAt w1 w0.heap.size (w0.heap.size + 1) [] wt clk rm :=
    ⟨by rw [hw1]; exact (Below.heap_alloc _ _ _ (by simp)).trans (alloc_new _ _), (by have := World.ownsMap_made (H := Unit) (w0.alloc (.cells #[.map (some (w0.heap.size + 1)), .int .i64 wt, .int .i64 clk, .int .i64 rm] 94)) Tryz.prog 9 ptrElem; rw [hw1]; simp at this; exact this), fun e he => (by cases he), fun e he => (by cases he), List.Pairwise.nil, fun e he => (by cases he)⟩
  have ho1 : Own w1 (fun i => w0.heap.size ≤ i) w0.heap.size (w0.heap.size + 1) [] := ⟨Nat.le_refl _, Nat.le_succ _, fun e he => (by cases he), fun e he => (by cases he), fun e he => (by cases he), fun e he => (by cases he), fun e he => (by cases he)⟩
  go_wp2_with (first
    | (at_range; rw [← hw1]; refine wpList_range_own _ rfl _ 92 rfl 9 97 key9 Tryz.underlying92 _ M L.length _ rfl hmp1 ?_; intro w2 hrg2 hg2 hs2)
    | fail)
  clear hmm hln
  have hb2 : Below w0.heap.size w0 w2 := hb1.grown hg2 (by omega) (fun k e => by cases e)
  have hbl2 : Below w1.heap.size w1 w2 := ⟨hg2.os, hg2.tape, hg2.output, hg2.size, fun k hk => hg2.block k hk (by simp)⟩
  go_wp2
  go_frame
  go_loopw [4, 5] (fun _ _ wr => ∃ (left : Lit → Bool) (cnt : Nat) (ss : List Bs) (L2 : Ents), wr.ranges Tryz.prog 9 ptrElem M w1.heap.size L.length (datum (blks L)) left cnt ∧ ss.length + cnt ≤ L.length ∧ Collected (datum (blks L) : DataW Unit) left ss ∧
      FsAt wr w0.heap.size (w0.heap.size + 1) L2 wt clk rm ∧ Own wr (fun i => w0.heap.size ≤ i) w0.heap.size (w0.heap.size + 1) L2 ∧ Copied L ss L2 ∧ L2.length ≤ ss.length ∧ Below w0.heap.size w0 wr) (fun _ _ wr => wr.rangeLeft M w1.heap.size)
  case atStart =>
    exact ⟨_, _, [], [], hrg2, by rw [hzL]; simp, Collected.start _, hfs1.below hbl2, ho1.below hbl2, fun p => by simp [nds, fnd_nil], Nat.le_refl _, hb2⟩
  case round =>
    obtain ⟨left, cnt, ss, L2, hrg, hcs, hC, hF, hO, hCp, hl2, hB⟩ := hrel
    go_wp2_with (first
      | (at_next; refine wpList_next_ranges _ rfl _ rfl 9 key9 ptrElem encStr id (fun key kl hk => by obtain ⟨x, hx, _⟩ := Maps.keyOf_str Tryz.underlying9 hk; exact ⟨x, hx⟩) (fun v _ _ => ⟨v, rfl⟩) M w1.heap.size L.length _ _ _ rfl hrg ?_ ?_)
      | fail)
    · intro hc0 hl0
      go_wp2
      go_ret
      refine ⟨_, _, L2, rfl, hF, hO, ?_, hB⟩
      have hp := hC.perm hrg.owns key9 Tryz.underlying9 hl0
      rw [datum_keys] at hp
      refine srt_ext (hF.srt.map _) (h.srt.map _) fun p => ?_
      rw [hCp p]
      split
      · rfl
      · rename_i hn
        rw [nds_fnd, fnd_none_of (fun e he e2 => hn ?_)]
        · rfl
        · rw [← e2]
          exact hp.mem_iff.2 (by rw [blks, List.map_map]; exact List.mem_map.2 ⟨e, he, rfl⟩)
    · intro x c kl yd yp w3 cnt3 hkey hlk hv hat hrg3 hlt hg3 hs3 hen
      obtain ⟨x', ex, rfl, _⟩ := Maps.keyOf_str Tryz.underlying9 hkey
      obtain rfl : x = x' := encStr_inj ex
      obtain ⟨b, hxb⟩ := datum_has (blks L) x (has_true_of_atKey hat)
      have hfx : ∃ e, fnd L x = some e := by
        cases hfe : fnd L x with
        | some e => exact ⟨e, rfl⟩
        | none =>
          have h1 := fnd_none hfe
          unfold blks at hxb
          obtain ⟨e, he, hee⟩ := List.mem_map.1 hxb
          simp only [Prod.mk.injEq] at hee
          exact absurd hee.1 (h1 e he)
      obtain ⟨en, hfe⟩ := hfx
      have hmem := fnd_mem hfe
      have hcp : c = .pointer (some ⟨en.blk, 0, none⟩) := by
        have h1 := hat .nil
        rw [datum_at, blks_fnd, hfe] at h1
        dsimp at h1
        rw [← h1] at hv
        exact ptrElem_lit hv
      subst hcp
      have hxl : x.length ≤ 1000 := h.keys _ hmem
      have hC3 := hC.step hlk hat
      have hb3 : Below w0.heap.size w0 w3 := hB.grown hg3 (by have := hB.size; omega) (fun k e => by cases e; omega)
      have hnode := h.nodes _ hmem
      have hnode3 : NodeAt w3 en := (hb3.block _ hnode.lt).trans hnode
      have hrd3 : Rds w3 en.dv en.nd.data := (h.rds _ hmem).below hb3
      obtain ⟨i1, i2, i3, hIT⟩ : ∃ i1 i2 i3, wr.heap[w0.heap.size + 1 + 1]? = some (.mapIter (some M) i1 i2 i3) := by
        obtain ⟨es, clock, since, seen, c0, hb, F, hs, hD, hr, rest⟩ := hrg
        exact ⟨_, _, _, by first | exact hr | (rw [hsz1] at hr; exact hr)⟩
      have hF3 : FsAt w3 w0.heap.size (w0.heap.size + 1) L2 wt clk rm := by
        refine hF.keep hg3.size (hg3.block _ hF.fb.lt fun e => ?_) (hg3.block _ hF.mp.lt fun e => ?_) (fun e he => hg3.block _ (hF.nodes e he).lt fun e2 => ?_) (fun e he hne g hg => hg3.block _ (rds_lt (hF.rds e he) hne g hg) fun e2 => ?_)
        · have := Option.some.inj e; omega
        · have := Option.some.inj e; omega
        · have q := hF.nodes e he
          unfold NodeAt at q
          rw [Option.some.inj e2, hIT] at q
          cases q
        · obtain ⟨cur, q⟩ := (hO.dat e he).elem g hg
          rw [Option.some.inj e2, hIT] at q
          cases q
      have hO3 : Own w3 (fun i => w0.heap.size ≤ i) w0.heap.size (w0.heap.size + 1) L2 := by
        refine ⟨hO.sA, hO.sM, hO.sB, hO.sD, fun e he => (hO.dat e he).kept fun g hg => hg3.block _ ((hO.dat e he).lt g hg) fun e2 => ?_, hO.apB, hO.apD⟩
        obtain ⟨cur, q⟩ := (hO.dat e he).elem g hg
        rw [Option.some.inj e2, hIT] at q
        cases q
      have hTw : TwC en.blk w0.heap.size (w0.heap.size + 1) en.nd.dir en.nd.time en.dv w3 := ⟨hnode3.c0, hnode3.c1, hnode3.c2, hF3.fb.c0⟩
      have hTwd : TwC en.blk w0.heap.size (w0.heap.size + 1) en.nd.dir en.nd.time en.dv w3.drew := ⟨hTw.c0, hTw.c1, hTw.c2, hTw.cg⟩
      go_wp2
      refine wp_region_class (C := TwC en.blk w0.heap.size (w0.heap.size + 1) en.nd.dir en.nd.time en.dv) (by kernel_rfl) ?_
      (refine wpAnyC_take (i := 0) (v := ?_) hTwd rfl (by kernel_rfl) (by kernel_rfl) (by kernel_rfl) (fun _ _ _ h => h) (Or.inl ⟨by rfl, ?_⟩) ?_; rotate_left; (intro w hc; have k0 := hc.c0; have k1 := hc.c1; have k2 := hc.c2; have kg := hc.cg; clear hc; go_simp; try with_reducible rfl))
      (refine wpAnyC_take (i := 1) (v := ?_) hTwd rfl (by kernel_rfl) (by kernel_rfl) (by kernel_rfl) (fun _ _ _ h => h) (Or.inl ⟨by rfl, ?_⟩) ?_; rotate_left; (intro w hc; have k0 := hc.c0; have k1 := hc.c1; have k2 := hc.c2; have kg := hc.cg; clear hc; go_simp; try with_reducible rfl))
      (refine wpAnyC_take (i := 2) (v := ?_) hTwd rfl (by kernel_rfl) (by kernel_rfl) (by kernel_rfl) (fun _ _ _ h => h) (Or.inl ⟨by rfl, ?_⟩) ?_; rotate_left; (intro w hc; have k0 := hc.c0; have k1 := hc.c1; have k2 := hc.c2; have kg := hc.cg; clear hc; go_simp; try with_reducible rfl))
      (refine wpAnyC_take (i := 4) (v := ?_) hTwd rfl (by kernel_rfl) (by kernel_rfl) (by kernel_rfl) (fun _ _ _ h => h) (Or.inl ⟨by rfl, ?_⟩) ?_; rotate_left; (intro w hc; have k0 := hc.c0; have k1 := hc.c1; have k2 := hc.c2; have kg := hc.cg; clear hc; go_simp; try with_reducible rfl))
      (refine wpAnyC_take (i := 5) (v := ?_) hTwd rfl (by kernel_rfl) (by kernel_rfl) (by kernel_rfl) (fun _ _ _ h => h) (Or.inl ⟨by rfl, ?_⟩) ?_; rotate_left; (intro w hc; have k0 := hc.c0; have k1 := hc.c1; have k2 := hc.c2; have kg := hc.cg; clear hc; go_simp; try with_reducible rfl))
      (refine wpAnyC_take (i := 6) (v := ?_) hTwd rfl (by kernel_rfl) (by kernel_rfl) (by kernel_rfl) (fun _ _ _ h => h) (Or.inl ⟨by rfl, ?_⟩) ?_; rotate_left; (intro w hc; have k0 := hc.c0; have k1 := hc.c1; have k2 := hc.c2; have kg := hc.cg; clear hc; go_simp; try with_reducible rfl))
      (refine wpAnyC_take (i := 7) (v := ?_) hTwd rfl (by kernel_rfl) (by kernel_rfl) (by kernel_rfl) (fun _ _ _ h => h) (Or.inl ⟨by rfl, ?_⟩) ?_; rotate_left; (intro w hc; have k0 := hc.c0; have k1 := hc.c1; have k2 := hc.c2; have kg := hc.cg; clear hc; go_simp; try with_reducible rfl))
      (refine wpAnyC_take (i := 8) (v := ?_) hTwd rfl (by kernel_rfl) (by kernel_rfl) (by kernel_rfl) (fun _ _ _ h => h) (Or.inl ⟨by rfl, ?_⟩) ?_; rotate_left; (intro w hc; have k0 := hc.c0; have k1 := hc.c1; have k2 := hc.c2; have kg := hc.cg; clear hc; go_simp; try with_reducible rfl))
      (refine wpAnyC_take (i := 9) (v := ?_) hTwd rfl (by kernel_rfl) (by kernel_rfl) (by kernel_rfl) (fun _ _ _ h => h) (Or.inl ⟨by rfl, ?_⟩) ?_; rotate_left; (intro w hc; have k0 := hc.c0; have k1 := hc.c1; have k2 := hc.c2; have kg := hc.cg; clear hc; go_simp; try with_reducible rfl))
      (refine wpAnyC_take (i := 10) (v := ?_) hTwd rfl (by kernel_rfl) (by kernel_rfl) (by kernel_rfl) (fun _ _ _ h => h) (Or.inl ⟨by rfl, ?_⟩) ?_; rotate_left; (intro w hc; have k0 := hc.c0; have k1 := hc.c1; have k2 := hc.c2; have kg := hc.cg; clear hc; go_simp; try with_reducible rfl))
      (refine wpAnyC_take (i := 11) (v := ?_) hTwd rfl (by kernel_rfl) (by kernel_rfl) (by kernel_rfl) (fun _ _ _ h => h) (Or.inl ⟨by rfl, ?_⟩) ?_; rotate_left; (intro w hc; have k0 := hc.c0; have k1 := hc.c1; have k2 := hc.c2; have kg := hc.cg; clear hc; go_simp; try with_reducible rfl))
      (refine wpAnyC_take (i := 12) (v := ?_) hTwd rfl (by kernel_rfl) (by kernel_rfl) (by kernel_rfl) (fun _ _ _ h => h) (Or.inl ⟨by rfl, ?_⟩) ?_; rotate_left; (intro w hc; have k0 := hc.c0; have k1 := hc.c1; have k2 := hc.c2; have kg := hc.cg; clear hc; go_simp; try with_reducible rfl))
      (refine wpAnyC_take (i := 13) (v := ?_) hTwd rfl (by kernel_rfl) (by kernel_rfl) (by kernel_rfl) (fun _ _ _ h => h) (Or.inl ⟨by rfl, ?_⟩) ?_; rotate_left; (intro w hc; have k0 := hc.c0; have k1 := hc.c1; have k2 := hc.c2; have kg := hc.cg; clear hc; go_simp; try with_reducible rfl))
      (refine wpAnyC_take (i := 14) (v := ?_) hTwd rfl (by kernel_rfl) (by kernel_rfl) (by kernel_rfl) (fun _ _ _ h => h) (Or.inl ⟨by rfl, ?_⟩) ?_; rotate_left; (intro w hc; have k0 := hc.c0; have k1 := hc.c1; have k2 := hc.c2; have kg := hc.cg; clear hc; go_simp; try with_reducible rfl))
      (refine wpAnyC_take (i := 15) (v := ?_) hTwd rfl (by kernel_rfl) (by kernel_rfl) (by kernel_rfl) (fun _ _ _ h => h) (Or.inl ⟨by rfl, ?_⟩) ?_; rotate_left; (intro w hc; have k0 := hc.c0; have k1 := hc.c1; have k2 := hc.c2; have kg := hc.cg; clear hc; go_simp; try with_reducible rfl))
      refine wpAnyC_one (i := 3) (by kernel_rfl) (wpOp_wanted rfl (by rfl) ?_)
      go_simp
      refine (clone_any (mk x) _ (by rw [mk_size]; omega)).mono ?_
      rintro e w4 ⟨rfl, hb4⟩
      dsimp only
      have hb4' : Below w3.heap.size w3 w4 := ⟨hb4.os, hb4.tape, hb4.output, hb4.size, hb4.block⟩
      have hTw4 := hTw.below hb4' hnode3.lt hF3.fb.lt
      have hrd4 := hrd3.below hb4'
      have hF4 := hF3.below hb4'
      have hO4 := hO3.below hb4'
      have hrg4 := hrg3.kept (below_grown (r := none) hb4') (by simp) (by simp)
      refine ⟨hTw4, ?_⟩
      refine wpAnyC_one (i := 16) (by kernel_rfl) (wpOp_wanted rfl (by rfl) ?_)
      go_simp
      refine (own_any en.dv en.nd.data _ hrd4 (hsz _ hmem)).mono ?_
      rintro e w5 ⟨v', rfl, hd5, hg5, hb5⟩
      obtain ⟨a5, cap5, hv5⟩ := hd5.len
      subst hv5
      dsimp only
      have hTw5 := hTw4.below hb5 (by have := hnode3.lt; have := hb4'.size; omega) hF4.fb.lt
      have hF5 := hF4.below hb5
      have hO5 := hO4.below hb5
      have hrg5 := hrg4.kept (below_grown (r := none) hb5) (by simp) (by simp)
      refine ⟨hTw5, ?_⟩
      refine wpAnyC_one (i := 17) (by kernel_rfl) (wpOp_wanted rfl (by rfl) ?_)
      go_simp
      refine wpAnyC_one (i := 18) (by kernel_rfl) (wpOp_wanted rfl (by rfl) ?_)
      have hb6 : Below w5.heap.size w5 (w5.alloc (.cells #[.bool en.nd.dir, .int .i64 en.nd.time, .slice a5 en.nd.data.length cap5] 99)) := (Below.refl _ _).alloc (Nat.le_refl _) _
      have hTw6 := hTw5.below hb6 (by have := hnode3.lt; have := hb4'.size; have := hb5.size; omega) hF5.fb.lt
      go_simp
      refine wpAnyC_one (i := 19) (by kernel_rfl) (wpOp_wanted rfl (by rfl) ?_)
      have hmp6 := (hF5.below hb6).mp
      obtain ⟨w7, hr7, hm7, hg7⟩ := hmp6.put (by omega) x (by unfold maxLen; omega) ⟨w5.heap.size, .slice a5 en.nd.data.length cap5, ⟨en.nd.dir, en.nd.time, en.nd.data⟩⟩
      dsimp only at hr7
      have hrg6 := hrg5.kept (below_grown (r := none) hb6) (by simp) (by simp)
      have hrg7 := hrg6.kept hg7 (fun e => by have := Option.some.inj e; omega) (fun e => by have := Option.some.inj e; omega)
      obtain ⟨hF7, hO7⟩ := tw_put hF5 hO5 hxl hd5 (fun g hg => ⟨by have := hg5 g hg; have := hb4'.size; have := hb3.size; omega, fun y hy e => by have := hg5 g hg; have := (hO4.dat y hy).lt g e; omega⟩) (by have := hb4'.size; have := hb3.size; have := hb5.size; omega) hm7 hg7
      have hB7 : Below w0.heap.size w0 w7 := ((hb3.trans (hb4'.mono hb3.size)).trans (hb5.mono (Nat.le_trans hb3.size hb4'.size))).trans ((hb6.mono (Nat.le_trans (Nat.le_trans hb3.size hb4'.size) hb5.size)).grown hg7 (by have := hb4'.size; have := hb3.size; have := hb5.size; simp; omega) (fun k e => by cases e; omega))
      have hTw7 : TwC en.blk w0.heap.size (w0.heap.size + 1) en.nd.dir en.nd.time en.dv w7 := by
        have hn7 : NodeAt w7 en := (hB7.block _ hnode.lt).trans hnode
        exact ⟨hn7.c0, hn7.c1, hn7.c2, hF7.fb.c0⟩
      have hCp7 := hCp.step (e2 := ⟨w5.heap.size, .slice a5 en.nd.data.length cap5, ⟨en.nd.dir, en.nd.time, en.nd.data⟩⟩) hfe rfl
      go_simp
      refine wpAnyC_done (by kernel_rfl) ?_ _
      go_wp2
      go_roundw
      case rel =>
        rw [hsz1]
        refine ⟨_, _, _, _, _, _, _, _, _, _, _, _, _, _, _, _, _, _, _, _, _, _, _, _, _, _, ?_, by rfl⟩
        exact ⟨_, cnt3, ss ++ [x], _, hrg7, by rw [List.length_append, List.length_singleton]; omega, hC3, hF7, hO7, hCp7, by rw [put_length, List.length_append, List.length_singleton]; have := del_length_le L2 x; omega, hB7⟩
      case measure =>
        rw [hrg.left_eq, hsz1]
        show w7.rangeLeft M (w0.heap.size + 1 + 1) < _
        rw [hrg7.left_eq]
        exact hlt
end Go.Proofs.YtabmnkddmdffkaaGreatDoor
