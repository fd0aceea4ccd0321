/- The contracts of vfs.cut at bytes, vfs.own, (*node).weight, (*FS).drop, set, fasten. The contract of (*FS).fasten, as a deferred call. The contract of (*FS).put. A file system with blocks of its own, and what becomes of it when a node is laid, or taken away. -/
import Derived.Test.YtbfchadcpokjoaaGreatDoorAZp
import Derived.Deep.RegionWith
import Derived.Defers
import Derived.Deep.QuietTactic
namespace Go.Proofs.YtbfchadcpokjoaaGreatDoor
open Go.RowKit Go.Maps

theorem i64_id (n : Int) (h : -9223372036854775808 ≤ n ∧ n ≤ 9223372036854775807) : IntKind.i64.wrap n = n := by rw [IntKind.wrap_i64]; omega
theorem w64_id (n : Int) (h : -9223372036854775808 ≤ n ∧ n ≤ 9223372036854775807) : wrap64 n = n := by unfold wrap64; omega
theorem cut_nil (w : World) : Calls Tryz.prog 40 #[.slice none 0 0] w fun r w' => r = .returned (.slice none 0 0) ∧ w' = w := by
  go_enter Tryz.func40, Tryz.ntmps40
  go_wp2
  go_ret
  exact ⟨rfl, rfl⟩
theorem cut_some (g n cap : Nat) (h : n ≤ cap) (_hc : cap ≤ maxLen) (w : World) : Calls Tryz.prog 40 #[.slice (some ⟨g, 0, none⟩) n cap] w fun r w' => r = .returned (.slice (some ⟨g, 0, none⟩) n n) ∧ w' = w := by
  unfold maxLen at _hc
  go_enter Tryz.func40, Tryz.ntmps40
  go_wp2
  go_ret
  exact ⟨rfl, rfl⟩
/-- vfs.own: new bytes -/
theorem own_any (v : Value) (bs : Bs) (w : World) (hv : Rds w v bs) (hsz : bs.length ≤ 1099511627776) :
    Calls Tryz.prog 24 #[v] w fun r w' => ∃ v', r = .returned v' ∧ Dat w' v' bs ∧ (∀ g, v'.ownBlock = some g → g = w.heap.size) ∧ Below w.heap.size w w' := by
  go_enter Tryz.func24, Tryz.ntmps24
  go_wp2_with (at_builtin; refine wpList_append_dat _ rfl _ _ rfl rfl rfl (Dat.nil _) hv (by simpa using hsz) ?_)
  intro v' w1 hd _ hg ho
  have hb : Below w.heap.size w w1 := ⟨hg.os, hg.tape, hg.output, hg.size, fun k hk => hg.block k hk (by simp [Value.ownBlock])⟩
  rcases hd with ⟨rfl, rfl⟩ | ⟨g, cap, cur, rfl, hgb, h1, h2, h3, h4⟩
  · go_wp2_with (go_at_call 40; refine (cut_nil _).mono ?_; rintro e w2 ⟨rfl, rfl⟩)
    go_ret
    exact ⟨_, rfl, .inl ⟨rfl, rfl⟩, fun g e => (by simp [Value.ownBlock] at e), hb⟩
  · go_wp2_with (go_at_call 40; refine (cut_some g bs.length cap h1 h3 _).mono ?_; rintro e w2 ⟨rfl, rfl⟩)
    go_ret
    refine ⟨_, rfl, .inr ⟨g, bs.length, cur, rfl, hgb, Nat.le_refl _, by omega, by omega, h4⟩, fun g' e => ?_, hb⟩
    cases e
    rcases ho with ho | ho
    · simp [Value.ownBlock] at ho
    · simpa [Value.ownBlock] using ho

theorem weight_any (e : En) (w : World) (hn : NodeAt w e) (hl : ∃ a cap, e.dv = .slice a e.nd.data.length cap) (hsz : e.nd.data.length ≤ 1099511627776) :
    Calls Tryz.prog 64 #[.pointer (some ⟨e.blk, 0, none⟩)] w fun r w' => r = .returned (.int .i64 (e.nd.wt : Nat)) ∧ w' = w := by
  obtain ⟨a, cap, hv⟩ := hl
  have c2 := hn.c2
  rw [hv] at c2
  have hw : ((e.nd.wt : Nat) : Int) = 1 + (e.nd.data.length : Int) := by unfold Nd.wt; omega
  rw [hw]
  generalize e.nd.data.length = n at c2 hsz
  clear hw hv hn
  go_enter Tryz.func64, Tryz.ntmps64
  go_wp2
  go_ret
  exact ⟨rfl, rfl⟩
/-- but for the file system's own block and its map nothing has turned -/
abbrev Two (A M : Nat) : Nat → Prop := fun k => k = A ∨ k = M
theorem neq_ptr_nil (b : Nat) (w : World) : (binOp .neq 59 (.pointer (some ⟨b, 0, none⟩)) (.pointer none)).run Tryz.prog w = .ok (.bool true) w := by kernel_rfl
theorem neq_nil_nil (w : World) : (binOp .neq 59 (.pointer none) (.pointer none)).run Tryz.prog w = .ok (.bool false) w := by kernel_rfl

/-- what is given: the node's weight, if there is one -/
def wtAt (L : Ents) (p : Bs) : Nat := match fnd L p with | some e => e.nd.wt | none => 0

theorem Mp.ne {w : World} {A M : Nat} {L : Ents} {wt clk rm : Int} (h : Mp w M L) (f : Fb w A M wt clk rm) : M ≠ A := by
  obtain ⟨es, c, hm⟩ := h.isMap
  intro e
  rw [e] at hm
  unfold Fb at f
  rw [f] at hm
  cases hm
theorem Fb.kept {w w' : World} {A M : Nat} {wt clk rm : Int} (h : Fb w A M wt clk rm) (hk : w'.heap[A]? = w.heap[A]?) : Fb w' A M wt clk rm := hk.trans h
theorem turn_set {A M : Nat} (w : World) (j : Nat) (v : Value) : Turn (Two A M) w (w.setCell ⟨A, j, none⟩ v) :=
  ⟨rfl, rfl, rfl, Nat.le_of_eq (by simp), fun k _ hn => Below.heap_setCell _ _ _ _ fun e => hn (.inl e)⟩
set_option maxHeartbeats 1000000 in
theorem drop_some (A M : Nat) (L : Ents) (wt clk rm : Int) (p : Bs) (e : En) (w : World) (h : FsAt w A M L wt clk rm) (hf : fnd L p = some e) (hp : p.length ≤ 1000) (hw0 : -1099511627776 ≤ wt) (hw1 : wt ≤ 1099511627776) (hsz : e.nd.data.length ≤ 1099511627776) :
    Calls Tryz.prog 63 #[.pointer (some ⟨A, 0, none⟩), .string (mk p)] w fun r w' => r = .returned (.tuple #[]) ∧ Fb w' A M (wt - e.nd.wt) clk rm ∧ Mp w' M (del L p) ∧ Turn (Two A M) w w' := by
  have hm : (p, e) ∈ L := fnd_mem hf
  have hpm : p.length ≤ maxLen := by unfold maxLen; omega
  have hl := h.mp.look p hpm
  rw [hf] at hl
  have c0 := h.fb.c0
  have c1 := h.fb.c1
  have f1 := h.fb.fz 1
  have hn := h.nodes _ hm
  have q := weight_any e w.drew hn (h.rds _ hm).len hsz
  have hwt : e.nd.wt ≤ 1099511627777 := by unfold Nd.wt; omega
  have nq := neq_ptr_nil e.blk
  have hfb := h.fb
  have hmp := h.mp
  have hne := hmp.ne hfb
  clear hf h hsz
  simp only [Option.map, ptrOf] at hl
  generalize e.nd.wt = n at q hwt
  obtain ⟨x, hx⟩ : ∃ x, x = wt - (n : Int) := ⟨_, rfl⟩
  have hwr : IntKind.i64.wrap (wt - (n : Int)) = x := by rw [hx]; exact i64_id _ ⟨by omega, by omega⟩
  have hw6 : wrap64 (wt - (n : Int)) = x := by rw [hx]; exact w64_id _ ⟨by omega, by omega⟩
  rw [← hx]
  clear hx
  have hmp2 : Mp (w.setCell ⟨A, 1, none⟩ (.int .i64 x)).drew M L := hmp.kept (Below.heap_setCell _ _ _ _ hne)
  have hfb2 : Fb (w.setCell ⟨A, 1, none⟩ (.int .i64 x)).drew A M x clk rm := hfb.set1 x
  have ht2 : Turn (Two A M) w (w.setCell ⟨A, 1, none⟩ (.int .i64 x)).drew := (turn_set w 1 _).drew
  have c2 : (w.setCell ⟨A, 1, none⟩ (.int .i64 x)).cell? ⟨A, 0, none⟩ = some (.map (some M)) := (hfb.set1 x).c0
  clear hn hm hw0 hw1 hwt
  go_enter Tryz.func63, Tryz.ntmps63
  go_wp2
  go_region_with (go_at_call 64; refine q.mono ?_; rintro e w' ⟨rfl, rfl⟩)
  all_goals
    go_wp2_with (at_delete; refine wpList_del _ rfl _ _ rfl M L rfl hmp2 p hpm rfl ?_; intro w3 hm3 hg3)
    go_end0
    exact ⟨rfl, hfb2.kept (hg3.block A hfb2.lt (fun e => hne (Option.some.inj e).symm)), hm3, ht2.trans' (Turn.of_grown hg3 fun k e => .inr (Option.some.inj e).symm)⟩
theorem drop_none (A M : Nat) (L : Ents) (wt clk rm : Int) (p : Bs) (w : World) (h : FsAt w A M L wt clk rm) (hf : fnd L p = none) (hp : p.length ≤ 1000) :
    Calls Tryz.prog 63 #[.pointer (some ⟨A, 0, none⟩), .string (mk p)] w fun r w' => r = .returned (.tuple #[]) ∧ w' = w := by
  have hl := h.mp.look p (by unfold maxLen; omega)
  rw [hf] at hl
  simp only [Option.map, ptrOf] at hl
  have c0 := h.fb.c0
  have nq := neq_nil_nil
  clear h hf
  go_enter Tryz.func63, Tryz.ntmps63
  go_wp2
  go_end0
  exact ⟨rfl, rfl⟩
/-- drop: what is there goes, with its weight -/
theorem drop_any (A M : Nat) (L : Ents) (wt clk rm : Int) (p : Bs) (w : World) (h : FsAt w A M L wt clk rm) (hp : p.length ≤ 1000) (hw0 : -1099511627776 ≤ wt) (hw1 : wt ≤ 1099511627776) (hsz : ∀ e ∈ L, e.2.nd.data.length ≤ 1099511627776) :
    Calls Tryz.prog 63 #[.pointer (some ⟨A, 0, none⟩), .string (mk p)] w fun r w' => r = .returned (.tuple #[]) ∧ Fb w' A M (wt - wtAt L p) clk rm ∧ Mp w' M (del L p) ∧ Turn (Two A M) w w' := by
  unfold wtAt
  cases hf : fnd L p with
  | none =>
    refine (drop_none A M L wt clk rm p w h hf hp).mono ?_
    rintro e w' ⟨rfl, rfl⟩
    refine ⟨rfl, ?_, ?_, Turn.refl _ _⟩
    · have : wt - ((0 : Nat) : Int) = wt := by omega
      rw [this]; exact h.fb
    · rw [del_none hf]; exact h.mp
  | some e => exact drop_some A M L wt clk rm p e w h hf hp hw0 hw1 (hsz _ (fnd_mem hf))

set_option maxHeartbeats 1000000 in
/-- set: n lies at p, its weight beside the others' -/
theorem set_any (A M : Nat) (L : Ents) (wt clk rm : Int) (p : Bs) (e : En) (w : World) (h : FsAt w A M L wt clk rm) (hp : p.length ≤ 1000) (hw0 : -549755813888 ≤ wt) (hw1 : wt ≤ 549755813888) (hsz : ∀ e ∈ L, e.2.nd.data.length ≤ 549755813888)
    (hn : NodeAt w e) (hd : Rds w e.dv e.nd.data) (hes : e.nd.data.length ≤ 549755813888) (hlen : L.length ≤ 1000000) :
    Calls Tryz.prog 34 #[.pointer (some ⟨A, 0, none⟩), .string (mk p), .pointer (some ⟨e.blk, 0, none⟩)] w fun r w' => r = .returned (.tuple #[]) ∧ Fb w' A M (wt - wtAt L p + e.nd.wt) clk rm ∧ Mp w' M (put L p e) ∧ Turn (Two A M) w w' := by
  have q1 := drop_any A M L wt clk rm p w h hp (by omega) (by omega) (fun x hx => Nat.le_trans (hsz x hx) (by omega))
  have hpm : p.length ≤ maxLen := by unfold maxLen; omega
  have hA : e.blk ≠ A := by
    intro e1
    have := hn
    unfold NodeAt at this
    rw [e1] at this
    have h2 := h.fb
    unfold Fb at h2
    rw [h2] at this
    simp at this
  have hM : e.blk ≠ M := by
    intro e1
    have := hn
    unfold NodeAt at this
    obtain ⟨es, c, hm⟩ := h.mp.isMap
    rw [e1, hm] at this
    cases this
  have hwb : (wtAt L p : Int) ≤ 549755813889 := by
    unfold wtAt
    cases hf : fnd L p with
    | none => simp
    | some x => have : x.nd.data.length ≤ 549755813888 := hsz _ (fnd_mem hf); simp only [Nd.wt]; omega
  have hew : e.nd.wt ≤ 549755813889 := by unfold Nd.wt; omega
  have hl := hd.len
  have hes' : e.nd.data.length ≤ 1099511627776 := by omega
  have hlen' : (del L p).length ≤ 1000000 := Nat.le_trans (del_length_le L p) hlen
  have hdl : fnd (del L p) p = none := fnd_del_same L p
  have hpd : put (del L p) p e = put L p e := by unfold put; rw [del_none hdl]
  clear hsz hes hlen hd
  generalize wtAt L p = d at q1 hwb
  have hx0 : -1099511627777 ≤ wt - (d : Int) := by omega
  have hx1 : wt - (d : Int) ≤ 1099511627776 := by omega
  generalize wt - (d : Int) = x at q1 hx0 hx1
  clear hw0 hw1 hwb h d
  go_enter Tryz.func34, Tryz.ntmps34
  go_wp2_with fail
  refine q1.mono ?_
  rintro r w1 ⟨rfl, hf1, hm1, ht1⟩
  have c0 := hf1.c0
  have hne := hm1.ne hf1
  go_wp2_with (at_mapUpdate; refine wpList_put _ rfl _ _ _ rfl M (del L p) rfl hm1 hlen' p hpm e rfl rfl ?_; intro w2 hm2 hg2)
  have hf2 : Fb w2 A M x clk rm := hf1.kept (hg2.block A hf1.lt (fun e => hne (Option.some.inj e).symm))
  have hn1 : NodeAt w1 e := (ht1.block _ hn.lt (fun hs => by rcases hs with h | h; exact hA h; exact hM h)).trans hn
  have hn2 : NodeAt w2 e := (hg2.block _ hn1.lt (fun e => hM (Option.some.inj e))).trans hn1
  have q2 := weight_any e w2.drew hn2 hl hes'
  have ht2 : Turn (Two A M) w w2 := ht1.trans' (Turn.of_grown hg2 fun k e => .inr (Option.some.inj e).symm)
  rw [hpd] at hm2
  have c0 := hf2.c0
  have c1 := hf2.c1
  have f1 := hf2.fz 1
  obtain ⟨y, hy⟩ : ∃ y, y = x + (e.nd.wt : Int) := ⟨_, rfl⟩
  have Hy := hide' hy
  generalize e.nd.wt = n at q2 hew hy
  have hwr : IntKind.i64.wrap (x + (n : Int)) = y := by rw [hy]; exact i64_id _ ⟨by omega, by omega⟩
  have hw6 : wrap64 (x + (n : Int)) = y := by rw [hy]; exact w64_id _ ⟨by omega, by omega⟩
  have hmp2 : Mp (w2.setCell ⟨A, 1, none⟩ (.int .i64 y)).drew M (put L p e) := hm2.kept (Below.heap_setCell _ _ _ _ hne)
  have hfb2 : Fb (w2.setCell ⟨A, 1, none⟩ (.int .i64 y)).drew A M y clk rm := hf2.set1 y
  have ht3 : Turn (Two A M) w (w2.setCell ⟨A, 1, none⟩ (.int .i64 y)).drew := (ht2.trans' (turn_set w2 1 _)).drew
  clear hx0 hx1 hew hy hm1 hm2 hf1 hf2 hn1 hn2 ht1 ht2 hg2 hl hn q1
  go_wp2
  go_region_with (go_at_call 64; refine q2.mono ?_; rintro e w' ⟨rfl, rfl⟩)
  all_goals
    go_wp2
    go_end0
    rw [← Hy.out]
    exact ⟨rfl, hfb2, hmp2, ht3⟩
end Go.Proofs.YtbfchadcpokjoaaGreatDoor
namespace Go.Proofs.YtbfchadcpokjoaaGreatDoor
open Go.RowKit Go.Maps

theorem fasten_none (A : Nat) (clk : Int) (u : FrameMode) (w : World) (c2 : w.cell? ⟨A, 2, none⟩ = some (.int .i64 clk)) (f2 : w.frozen? ⟨A, 2, none⟩ = false) (h0 : 0 ≤ clk) (h1 : clk ≤ 1099511627776000) :
    CallsD Tryz.prog 107 #[.pointer (some ⟨A, 0, none⟩), .slice none 0 0] u w fun e u' w' => u' = u ∧ (e = .returned (.tuple #[]) ∧ w' = w.setCell ⟨A, 2, none⟩ (.int .i64 (clk + 1))) := by
  go_enter_d Tryz.func107, Tryz.ntmps107
  go_wp2
  refine wp_loop_rounds 1 ?_
  rw [rounds_succ]
  go_wp2
  go_end0
  exact ⟨rfl, rfl⟩
set_option maxHeartbeats 1000000 in
theorem fasten_one (A V b : Nat) (clk t : Int) (u : FrameMode) (w : World) (hb : b ≠ A) (hV : V ≠ A) (c2 : w.cell? ⟨A, 2, none⟩ = some (.int .i64 clk)) (f2 : w.frozen? ⟨A, 2, none⟩ = false) (h0 : 0 ≤ clk) (h1 : clk ≤ 1099511627776000)
    (cv : w.cell? ⟨V, 0, none⟩ = some (.pointer (some ⟨b, 0, none⟩))) (ct : w.cell? ⟨b, 1, none⟩ = some (.int .i64 t)) (ft : w.frozen? ⟨b, 1, none⟩ = false) :
    CallsD Tryz.prog 107 #[.pointer (some ⟨A, 0, none⟩), .slice (some ⟨V, 0, none⟩) 1 1] u w fun e u' w' => u' = u ∧ (e = .returned (.tuple #[]) ∧ w' = (w.setCell ⟨A, 2, none⟩ (.int .i64 (clk + 1))).setCell ⟨b, 1, none⟩ (.int .i64 (clk + 1))) := by
  have d2 : (w.setCell ⟨A, 2, none⟩ (.int .i64 (clk + 1))).cell? ⟨A, 2, none⟩ = some (.int .i64 (clk + 1)) := World.cell?_setCell_same' _ _ _ (by rw [c2]; rfl)
  have dv : (w.setCell ⟨A, 2, none⟩ (.int .i64 (clk + 1))).cell? ⟨V, 0, none⟩ = some (.pointer (some ⟨b, 0, none⟩)) := (World.cell?_of_block (a := ⟨V, 0, none⟩) (Below.heap_setCell _ _ _ V hV)).trans cv
  have dt : (w.setCell ⟨A, 2, none⟩ (.int .i64 (clk + 1))).cell? ⟨b, 1, none⟩ = some (.int .i64 t) := (World.cell?_of_block (a := ⟨b, 1, none⟩) (Below.heap_setCell _ _ _ b hb)).trans ct
  have df : (w.setCell ⟨A, 2, none⟩ (.int .i64 (clk + 1))).frozen? ⟨b, 1, none⟩ = false := (World.frozen?_of_block (a := ⟨b, 1, none⟩) (Below.heap_setCell _ _ _ b hb)).trans ft
  go_enter_d Tryz.func107, Tryz.ntmps107
  go_wp2
  refine wp_loop_rounds 2 ?_
  rw [rounds_succ]
  go_wp2
  rw [rounds_succ]
  go_wp2
  go_end0
  exact ⟨rfl, rfl⟩
def aged (e : En) (t : Int) : En := { e with nd := { e.nd with time := t } }
theorem node_ne {w : World} {e : En} {A M : Nat} {wt clk rm : Int} (hn : NodeAt w e) (h : Fb w A M wt clk rm) : e.blk ≠ A := by
  intro e1
  unfold NodeAt at hn
  unfold Fb at h
  rw [e1, h] at hn
  simp at hn
theorem node_ne_map {w : World} {e : En} {M : Nat} {L : Ents} (hn : NodeAt w e) (h : Mp w M L) : e.blk ≠ M := by
  intro e1
  unfold NodeAt at hn
  obtain ⟨es, c, hm⟩ := h.isMap
  rw [e1, hm] at hn
  cases hn
/-- fasten(n) -/
theorem fasten_node (A M V : Nat) (L : Ents) (wt clk rm : Int) (e : En) (u : FrameMode) (w : World) (hf : Fb w A M wt clk rm) (hm : Mp w M L) (hn : NodeAt w e) (h0 : 0 ≤ clk) (h1 : clk ≤ 1099511627776000) (hV : V ≠ A)
    (cv : w.cell? ⟨V, 0, none⟩ = some (.pointer (some ⟨e.blk, 0, none⟩))) :
    CallsD Tryz.prog 107 #[.pointer (some ⟨A, 0, none⟩), .slice (some ⟨V, 0, none⟩) 1 1] u w fun r u' w' => u' = u ∧ r = .returned (.tuple #[]) ∧ Fb w' A M wt (clk + 1) rm ∧ Mp w' M L ∧ NodeAt w' (aged e (clk + 1)) ∧ Turn (fun k => k = A ∨ k = e.blk) w w' := by
  have hA := node_ne hn hf
  have hM := node_ne_map hn hm
  have hne := hm.ne hf
  refine (fasten_one A V e.blk clk e.nd.time u w hA hV hf.c2 (hf.fz 2) h0 h1 cv hn.c1 (hn.fz 1)).mono ?_
  rintro r u' w' ⟨rfl, rfl, rfl⟩
  refine ⟨rfl, rfl, (hf.set2 (clk + 1)).kept (Below.heap_setCell _ _ _ _ hA.symm), hm.kept ((Below.heap_setCell _ _ _ _ hM.symm).trans (Below.heap_setCell _ _ _ _ hne)), ?_, ?_⟩
  · have hn2 : NodeAt (w.setCell ⟨A, 2, none⟩ (.int .i64 (clk + 1))) e := (Below.heap_setCell _ _ _ _ hA).trans hn
    exact hn2.set1 (clk + 1)
  · exact ⟨rfl, rfl, rfl, Nat.le_of_eq (by simp), fun k _ hk => (Below.heap_setCell _ _ _ _ fun e => hk (.inr e)).trans (Below.heap_setCell _ _ _ _ fun e => hk (.inl e))⟩
/-- fasten() -/
theorem fasten_clock (A M : Nat) (L : Ents) (wt clk rm : Int) (u : FrameMode) (w : World) (hf : Fb w A M wt clk rm) (hm : Mp w M L) (h0 : 0 ≤ clk) (h1 : clk ≤ 1099511627776000) :
    CallsD Tryz.prog 107 #[.pointer (some ⟨A, 0, none⟩), .slice none 0 0] u w fun r u' w' => u' = u ∧ r = .returned (.tuple #[]) ∧ Fb w' A M wt (clk + 1) rm ∧ Mp w' M L ∧ Turn (fun k => k = A) w w' := by
  have hne := hm.ne hf
  refine (fasten_none A clk u w hf.c2 (hf.fz 2) h0 h1).mono ?_
  rintro r u' w' ⟨rfl, rfl, rfl⟩
  exact ⟨rfl, rfl, hf.set2 (clk + 1), hm.kept (Below.heap_setCell _ _ _ _ hne), ⟨rfl, rfl, rfl, Nat.le_of_eq (by simp), fun k _ hk => Below.heap_setCell _ _ _ _ hk⟩⟩
end Go.Proofs.YtbfchadcpokjoaaGreatDoor
namespace Go.Proofs.YtbfchadcpokjoaaGreatDoor
open Go.RowKit Go.Maps

/-- but for the file system's own block, its map and one node nothing has turned -/
abbrev Three (A M b : Nat) : Nat → Prop := fun k => k = A ∨ k = M ∨ k = b
/-- a fault that holds a number, in memory -/
def Flt (w : World) (b : Nat) (n : Int) : Prop := ∃ p, w.heap[b]? = some (.cells #[.string p, .iface 37 (.int .i64 n)] 86 (0, 0))

set_option maxRecDepth 100000 in
set_option maxHeartbeats 2000000 in
/-- nothing is there, and there is room -/
theorem put_new (A M : Nat) (L : Ents) (wt clk rm : Int) (p : Bs) (e : En) (w : World) (h : FsAt w A M L wt clk rm) (hf : fnd L p = none) (hp : p.length ≤ 1000) (hw0 : 0 ≤ wt) (hw1 : wt ≤ 1048576) (hk0 : 0 ≤ clk) (hk1 : clk ≤ 1099511627776000) (hsz : ∀ e ∈ L, e.2.nd.data.length ≤ 1048576)
    (hn : NodeAt w e) (hd : Rds w e.dv e.nd.data) (hes : e.nd.data.length ≤ 1048576) (hlen : L.length + 1 ≤ 1000) (hr : wt + e.nd.wt ≤ rm) :
    Calls Tryz.prog 57 #[.pointer (some ⟨A, 0, none⟩), .string (mk p), .pointer (some ⟨e.blk, 0, none⟩)] w fun r w' => r = .returned .nilIface ∧ Fb w' A M (wt + e.nd.wt) (clk + 1) rm ∧ Mp w' M (put L p e) ∧ NodeAt w' (aged e (clk + 1)) ∧ Turn (Three A M e.blk) w w' := by
  have hpm : p.length ≤ maxLen := by unfold maxLen; omega
  have hl := fun n => Mp.look (w := w.drewN n) (M := M) (L := L) h.mp p hpm
  simp only [hf, Option.map, ptrOf] at hl
  have hln := fun (ty : TypeId) (n : Nat) => Mp.len (w := w.drewN n) (M := M) (L := L) h.mp ty
  have c0 := h.fb.c0
  have c1 := h.fb.c1
  have c3 := h.fb.c3
  have eq0 := neq_nil_nil
  have q := fun n => weight_any e (w.drewN n) hn hd.len (by omega)
  have hew : e.nd.wt ≤ 1048577 := by unfold Nd.wt; omega
  have k1 : ¬ (1000 : Int) < (L.length : Int) + 1 := by omega
  have k2 : ¬ rm < wt + (e.nd.wt : Int) := by omega
  have HQ : Hid (∀ n, Calls Tryz.prog 34 #[.pointer (some ⟨A, 0, none⟩), .string (mk p), .pointer (some ⟨e.blk, 0, none⟩)] ((w.drewN n).alloc (.cells #[.pointer (some ⟨e.blk, 0, none⟩)] 59)) fun r w' => r = .returned (.tuple #[]) ∧ Fb w' A M (wt + e.nd.wt) clk rm ∧ Mp w' M (put L p e) ∧ Turn (Two A M) ((w.drewN n).alloc (.cells #[.pointer (some ⟨e.blk, 0, none⟩)] 59)) w') := by
    intro n
    have hb : Below w.heap.size w ((w.drewN n).alloc (.cells #[.pointer (some ⟨e.blk, 0, none⟩)] 59)) := (below_drewn n).alloc (Nat.le_refl _) _
    have := set_any A M L wt clk rm p e _ (h.below hb) hp (by omega) (by omega) (fun x hx => Nat.le_trans (hsz x hx) (by omega)) ((hb.block _ hn.lt).trans hn) (hd.below hb) (by omega) (by omega)
    have e0 : wt - ((wtAt L p : Nat) : Int) = wt := by unfold wtAt; rw [hf]; simp
    rw [e0] at this
    exact this
  have hA := h.fb.lt
  have hB := hn.lt
  have hAB := node_ne hn h.fb
  have hMB := node_ne_map hn h.mp
  have hML := h.mp.lt
  have HN := hide' hn
  clear h hf hsz hd hes hlen hr hpm hn
  go_enter_defers Tryz.func57, Tryz.ntmps57
  go_wp2
  go_quiet ((go_at_call 64; exact Calls.quiet_of_same (q _)))
  go_wp2_with fail
  refine (HQ.out _).mono ?_
  rintro r w1 ⟨rfl, hf1, hm1, ht1⟩
  go_wp2
  have hs := ht1.size
  rw [World.size_alloc] at hs
  have hz : (w.drewN nq).heap.size = w.heap.size := rfl
  have hn1 : NodeAt w1 e := (ht1.block _ (by rw [World.size_alloc]; omega) (fun hs => by rcases hs with h | h; exact hAB h; exact hMB h)).trans ((Below.heap_alloc _ _ _ (by rw [hz]; exact hB)).trans HN.out)
  have cv : w1.cell? ⟨w.heap.size, 0, none⟩ = some (.pointer (some ⟨e.blk, 0, none⟩)) :=
    (World.cell?_of_block (a := ⟨w.heap.size, 0, none⟩) (ht1.block w.heap.size (by rw [World.size_alloc]; omega) (fun hs => by rcases hs with h | h <;> omega))).trans (World.cell?_alloc_at _ _ _ _ (by simp))
  refine leaves_cons (f := 107) (args := #[.pointer (some ⟨A, 0, none⟩), .slice (some ⟨w.heap.size, 0, none⟩) 1 1]) (by simp) (by simp [go_sem]) ?_
  refine (fasten_node A M w.heap.size (put L p e) (wt + e.nd.wt) clk rm e .returning w1 hf1 hm1 hn1 hk0 hk1 (by omega) cv).mono ?_
  rintro r u' w'' ⟨rfl, rfl, hf2, hm2, hn2, ht2⟩
  refine ⟨_, results_tmp rfl _ _ _, rfl, hf2, hm2, hn2, ?_⟩
  have hta : Turn (Three A M e.blk) w ((w.drewN nq).alloc (.cells #[.pointer (some ⟨e.blk, 0, none⟩)] 59)) := ((Turn.refl _ w).drewN nq).alloc _
  exact (hta.trans ht1 fun i hi => .inl (by rcases hi with h | h; exact .inl h; exact .inr (.inl h))).trans ht2 fun i hi => .inl (by rcases hi with h | h; exact .inl h; exact .inr (.inr h))
set_option maxRecDepth 100000 in
set_option maxHeartbeats 2000000 in
/-- something is there, and there is room -/
theorem put_old (A M : Nat) (L : Ents) (wt clk rm : Int) (p : Bs) (e o : En) (w : World) (h : FsAt w A M L wt clk rm) (hf : fnd L p = some o) (hp : p.length ≤ 1000) (hw0 : 0 ≤ wt) (hw1 : wt ≤ 1048576) (hk0 : 0 ≤ clk) (hk1 : clk ≤ 1099511627776000) (hsz : ∀ e ∈ L, e.2.nd.data.length ≤ 1048576)
    (hn : NodeAt w e) (hd : Rds w e.dv e.nd.data) (hes : e.nd.data.length ≤ 1048576) (hlen : L.length ≤ 1000) (hr : wt + e.nd.wt - o.nd.wt ≤ rm) :
    Calls Tryz.prog 57 #[.pointer (some ⟨A, 0, none⟩), .string (mk p), .pointer (some ⟨e.blk, 0, none⟩)] w fun r w' => r = .returned .nilIface ∧ Fb w' A M (wt - o.nd.wt + e.nd.wt) (clk + 1) rm ∧ Mp w' M (put L p e) ∧ NodeAt w' (aged e (clk + 1)) ∧ Turn (Three A M e.blk) w w' := by
  have hpm : p.length ≤ maxLen := by unfold maxLen; omega
  have hl := fun n => Mp.look (w := w.drewN n) (M := M) (L := L) h.mp p hpm
  simp only [hf, Option.map, ptrOf] at hl
  have hln := fun (ty : TypeId) (n : Nat) => Mp.len (w := w.drewN n) (M := M) (L := L) h.mp ty
  have c0 := h.fb.c0
  have c1 := h.fb.c1
  have c3 := h.fb.c3
  have eq0 := neq_ptr_nil o.blk
  have q := fun n => weight_any e (w.drewN n) hn hd.len (by omega)
  have hew : e.nd.wt ≤ 1048577 := by unfold Nd.wt; omega
  have hm : (p, o) ∈ L := fnd_mem hf
  have hno : NodeAt w o := h.nodes _ hm
  have hos : o.nd.data.length ≤ 1048576 := hsz _ hm
  have hro : Rds w o.dv o.nd.data := h.rds _ hm
  have qo := fun n => weight_any o (w.drewN n) hno hro.len (by omega)
  have how : o.nd.wt ≤ 1048577 := by unfold Nd.wt; omega
  have k0 : ¬ (1000 : Int) < (L.length : Int) := by omega
  have k1 : ¬ (1000 : Int) < (L.length : Int) + 1 - 1 := by omega
  have k2 : ¬ rm < wt + (e.nd.wt : Int) - (o.nd.wt : Int) := by omega
  have HQ : Hid (∀ n, Calls Tryz.prog 34 #[.pointer (some ⟨A, 0, none⟩), .string (mk p), .pointer (some ⟨e.blk, 0, none⟩)] ((w.drewN n).alloc (.cells #[.pointer (some ⟨e.blk, 0, none⟩)] 59)) fun r w' => r = .returned (.tuple #[]) ∧ Fb w' A M (wt - o.nd.wt + e.nd.wt) clk rm ∧ Mp w' M (put L p e) ∧ Turn (Two A M) ((w.drewN n).alloc (.cells #[.pointer (some ⟨e.blk, 0, none⟩)] 59)) w') := by
    intro n
    have hb : Below w.heap.size w ((w.drewN n).alloc (.cells #[.pointer (some ⟨e.blk, 0, none⟩)] 59)) := (below_drewn n).alloc (Nat.le_refl _) _
    have := set_any A M L wt clk rm p e _ (h.below hb) hp (by omega) (by omega) (fun x hx => Nat.le_trans (hsz x hx) (by omega)) ((hb.block _ hn.lt).trans hn) (hd.below hb) (by omega) (by omega)
    have e0 : wtAt L p = o.nd.wt := by unfold wtAt; rw [hf]
    rw [e0] at this
    exact this
  have hA := h.fb.lt
  have hB := hn.lt
  have hAB := node_ne hn h.fb
  have hMB := node_ne_map hn h.mp
  have hML := h.mp.lt
  have HN := hide' hn
  clear h hf hsz hd hes hlen hr hpm hn hno hro hos hm
  go_enter_defers Tryz.func57, Tryz.ntmps57
  go_wp2
  go_quiet ((go_at_call 64; exact Calls.quiet_of_same (q _)))
  go_wp2_with fail
  refine (qo _).mono ?_
  rintro r w0 ⟨rfl, rfl⟩
  go_wp2_with fail
  refine (HQ.out _).mono ?_
  rintro r w1 ⟨rfl, hf1, hm1, ht1⟩
  go_wp2
  have hs := ht1.size
  rw [World.size_alloc] at hs
  have hz : (w.drewN nq).heap.size = w.heap.size := rfl
  have hn1 : NodeAt w1 e := (ht1.block _ (by rw [World.size_alloc]; omega) (fun hs => by rcases hs with h | h; exact hAB h; exact hMB h)).trans ((Below.heap_alloc _ _ _ (by rw [hz]; exact hB)).trans HN.out)
  have cv : w1.cell? ⟨w.heap.size, 0, none⟩ = some (.pointer (some ⟨e.blk, 0, none⟩)) :=
    (World.cell?_of_block (a := ⟨w.heap.size, 0, none⟩) (ht1.block w.heap.size (by rw [World.size_alloc]; omega) (fun hs => by rcases hs with h | h <;> omega))).trans (World.cell?_alloc_at _ _ _ _ (by simp))
  refine leaves_cons (f := 107) (args := #[.pointer (some ⟨A, 0, none⟩), .slice (some ⟨w.heap.size, 0, none⟩) 1 1]) (by simp) (by simp [go_sem]) ?_
  refine (fasten_node A M w.heap.size (put L p e) (wt - o.nd.wt + e.nd.wt) clk rm e .returning w1 hf1 hm1 hn1 hk0 hk1 (by omega) cv).mono ?_
  rintro r u' w'' ⟨rfl, rfl, hf2, hm2, hn2, ht2⟩
  refine ⟨_, results_tmp rfl _ _ _, rfl, hf2, hm2, hn2, ?_⟩
  have hta : Turn (Three A M e.blk) w ((w.drewN nq).alloc (.cells #[.pointer (some ⟨e.blk, 0, none⟩)] 59)) := ((Turn.refl _ w).drewN nq).alloc _
  exact (hta.trans ht1 fun i hi => .inl (by rcases hi with h | h; exact .inl h; exact .inr (.inl h))).trans ht2 fun i hi => .inl (by rcases hi with h | h; exact .inl h; exact .inr (.inr h))
set_option maxRecDepth 100000 in
set_option maxHeartbeats 2000000 in
/-- there is no room: a fault -/
theorem put_full_new (A M : Nat) (L : Ents) (wt clk rm : Int) (p : Bs) (e : En) (w : World) (h : FsAt w A M L wt clk rm) (hf : fnd L p = none) (hp : p.length ≤ 1000) (hw0 : 0 ≤ wt) (hw1 : wt ≤ 1048576) 
    (hn : NodeAt w e) (hd : Rds w e.dv e.nd.data) (hes : e.nd.data.length ≤ 1048576) (hl0 : L.length ≤ 1000000) (hr : 1000 < L.length + 1 ∨ rm < wt + e.nd.wt) :
    Calls Tryz.prog 57 #[.pointer (some ⟨A, 0, none⟩), .string (mk p), .pointer (some ⟨e.blk, 0, none⟩)] w fun r w' => ∃ b, r = .returned (.iface 84 (.pointer (some ⟨b, 0, none⟩))) ∧ Flt w' b 15 ∧ Below w.heap.size w w' := by
  have hpm : p.length ≤ maxLen := by unfold maxLen; omega
  have hl := fun n => Mp.look (w := w.drewN n) (M := M) (L := L) h.mp p hpm
  simp only [hf, Option.map, ptrOf] at hl
  have hln := fun (ty : TypeId) (n : Nat) => Mp.len (w := w.drewN n) (M := M) (L := L) h.mp ty
  have c0 := h.fb.c0
  have c1 := h.fb.c1
  have c3 := h.fb.c3
  have eq0 := neq_nil_nil
  have q := fun n => weight_any e (w.drewN n) hn hd.len (by omega)
  have hew : e.nd.wt ≤ 1048577 := by unfold Nd.wt; omega
  clear h hf hd hes hpm hn
  by_cases k : 1000 < L.length + 1
  · have k1 : (1000 : Int) < (L.length : Int) + 1 := by omega
    clear hr k
    go_enter_defers Tryz.func57, Tryz.ntmps57
    go_wp2
    go_quiet ((go_at_call 64; exact Calls.quiet_of_same (q _)))
    go_wp2
    exact ⟨_, results_tmp rfl _ _ _, w.heap.size, rfl, ⟨_, heap_alloc_new (w.drewN nq) _⟩, (below_drewn nq).alloc (Nat.le_refl _) _⟩
  · have k1 : ¬ (1000 : Int) < (L.length : Int) + 1 := by omega
    have k2 : rm < wt + (e.nd.wt : Int) := by omega
    clear hr k
    go_enter_defers Tryz.func57, Tryz.ntmps57
    go_wp2
    go_quiet ((go_at_call 64; exact Calls.quiet_of_same (q _)))
    go_wp2
    exact ⟨_, results_tmp rfl _ _ _, w.heap.size, rfl, ⟨_, heap_alloc_new (w.drewN nq) _⟩, (below_drewn nq).alloc (Nat.le_refl _) _⟩
set_option maxRecDepth 100000 in
set_option maxHeartbeats 2000000 in
theorem put_full_old (A M : Nat) (L : Ents) (wt clk rm : Int) (p : Bs) (e o : En) (w : World) (h : FsAt w A M L wt clk rm) (hf : fnd L p = some o) (hp : p.length ≤ 1000) (hw0 : 0 ≤ wt) (hw1 : wt ≤ 1048576) 
    (hn : NodeAt w e) (hd : Rds w e.dv e.nd.data) (hes : e.nd.data.length ≤ 1048576) (hl0 : L.length ≤ 1000000) (hos : o.nd.data.length ≤ 1048576) (hr : 1000 < L.length ∨ rm < wt + e.nd.wt - o.nd.wt) :
    Calls Tryz.prog 57 #[.pointer (some ⟨A, 0, none⟩), .string (mk p), .pointer (some ⟨e.blk, 0, none⟩)] w fun r w' => ∃ b, r = .returned (.iface 84 (.pointer (some ⟨b, 0, none⟩))) ∧ Flt w' b 15 ∧ Below w.heap.size w w' := by
  have hpm : p.length ≤ maxLen := by unfold maxLen; omega
  have hl := fun n => Mp.look (w := w.drewN n) (M := M) (L := L) h.mp p hpm
  simp only [hf, Option.map, ptrOf] at hl
  have hln := fun (ty : TypeId) (n : Nat) => Mp.len (w := w.drewN n) (M := M) (L := L) h.mp ty
  have c0 := h.fb.c0
  have c1 := h.fb.c1
  have c3 := h.fb.c3
  have eq0 := neq_ptr_nil o.blk
  have q := fun n => weight_any e (w.drewN n) hn hd.len (by omega)
  have hew : e.nd.wt ≤ 1048577 := by unfold Nd.wt; omega
  have hm : (p, o) ∈ L := fnd_mem hf
  have hno : NodeAt w o := h.nodes _ hm
  have hro : Rds w o.dv o.nd.data := h.rds _ hm
  have qo := fun n => weight_any o (w.drewN n) hno hro.len (by omega)
  have how : o.nd.wt ≤ 1048577 := by unfold Nd.wt; omega
  clear h hf hd hes hpm hn hm hno hro hos
  by_cases k : 1000 < L.length
  · have k1 : (1000 : Int) < (L.length : Int) := by omega
    have k1' : (1000 : Int) < (L.length : Int) + 1 - 1 := by omega
    clear hr k
    go_enter_defers Tryz.func57, Tryz.ntmps57
    go_wp2
    go_quiet ((go_at_call 64; exact Calls.quiet_of_same (q _)))
    go_wp2_with fail
    refine (qo _).mono ?_
    rintro r w0 ⟨rfl, rfl⟩
    go_wp2
    exact ⟨_, results_tmp rfl _ _ _, w.heap.size, rfl, ⟨_, heap_alloc_new (w.drewN nq) _⟩, (below_drewn nq).alloc (Nat.le_refl _) _⟩
  · have k1 : ¬ (1000 : Int) < (L.length : Int) := by omega
    have k1' : ¬ (1000 : Int) < (L.length : Int) + 1 - 1 := by omega
    have k2 : rm < wt + (e.nd.wt : Int) - (o.nd.wt : Int) := by omega
    clear hr k
    go_enter_defers Tryz.func57, Tryz.ntmps57
    go_wp2
    go_quiet ((go_at_call 64; exact Calls.quiet_of_same (q _)))
    go_wp2_with fail
    refine (qo _).mono ?_
    rintro r w0 ⟨rfl, rfl⟩
    go_wp2
    exact ⟨_, results_tmp rfl _ _ _, w.heap.size, rfl, ⟨_, heap_alloc_new (w.drewN nq) _⟩, (below_drewn nq).alloc (Nat.le_refl _) _⟩

/-- there is room for e at p -/
def fits (L : Ents) (p : Bs) (e : En) (wt rm : Int) : Bool := decide ((put L p e).length ≤ 1000) && decide (wt - wtAt L p + e.nd.wt ≤ rm)
/-- (*FS).put -/
theorem put_yes (A M : Nat) (L : Ents) (wt clk rm : Int) (p : Bs) (e : En) (w : World) (h : FsAt w A M L wt clk rm) (hp : p.length ≤ 1000) (hw0 : 0 ≤ wt) (hw1 : wt ≤ 1048576) (hk0 : 0 ≤ clk) (hk1 : clk ≤ 1099511627776000) (hsz : ∀ e ∈ L, e.2.nd.data.length ≤ 1048576)
    (hn : NodeAt w e) (hd : Rds w e.dv e.nd.data) (hes : e.nd.data.length ≤ 1048576) (hr : fits L p e wt rm = true) :
    Calls Tryz.prog 57 #[.pointer (some ⟨A, 0, none⟩), .string (mk p), .pointer (some ⟨e.blk, 0, none⟩)] w fun r w' => r = .returned .nilIface ∧ Fb w' A M (wt - wtAt L p + e.nd.wt) (clk + 1) rm ∧ Mp w' M (put L p e) ∧ NodeAt w' (aged e (clk + 1)) ∧ Turn (Three A M e.blk) w w' := by
  simp only [fits, Bool.and_eq_true, decide_eq_true_eq, put_length] at hr
  have hdl := del_length h.srt p
  unfold wtAt at hr ⊢
  cases hf : fnd L p with
  | none =>
    rw [hf] at hr hdl
    have e0 : wt - ((0 : Nat) : Int) = wt := by omega
    simp only [e0] at hr ⊢
    simp only at hdl
    exact put_new A M L wt clk rm p e w h hf hp hw0 hw1 hk0 hk1 hsz hn hd hes (by omega) hr.2
  | some o =>
    rw [hf] at hr hdl
    exact put_old A M L wt clk rm p e o w h hf hp hw0 hw1 hk0 hk1 hsz hn hd hes (by simp only at hdl; omega) (by have := hr.2; simp only at this; omega)
theorem put_no (A M : Nat) (L : Ents) (wt clk rm : Int) (p : Bs) (e : En) (w : World) (h : FsAt w A M L wt clk rm) (hp : p.length ≤ 1000) (hw0 : 0 ≤ wt) (hw1 : wt ≤ 1048576) (hsz : ∀ e ∈ L, e.2.nd.data.length ≤ 1048576)
    (hn : NodeAt w e) (hd : Rds w e.dv e.nd.data) (hes : e.nd.data.length ≤ 1048576) (hl0 : L.length ≤ 1000000) (hr : fits L p e wt rm = false) :
    Calls Tryz.prog 57 #[.pointer (some ⟨A, 0, none⟩), .string (mk p), .pointer (some ⟨e.blk, 0, none⟩)] w fun r w' => ∃ b, r = .returned (.iface 84 (.pointer (some ⟨b, 0, none⟩))) ∧ Flt w' b 15 ∧ Below w.heap.size w w' := by
  simp only [fits, Bool.and_eq_false_iff, decide_eq_false_iff_not, put_length] at hr
  have hdl := del_length h.srt p
  unfold wtAt at hr
  cases hf : fnd L p with
  | none =>
    rw [hf] at hr hdl
    simp only at hr hdl
    exact put_full_new A M L wt clk rm p e w h hf hp hw0 hw1 hn hd hes hl0 (by omega)
  | some o =>
    rw [hf] at hr hdl
    simp only at hr hdl
    exact put_full_old A M L wt clk rm p e o w h hf hp hw0 hw1 hn hd hes hl0 (hsz _ (fnd_mem hf)) (by omega)
end Go.Proofs.YtbfchadcpokjoaaGreatDoor
namespace Go.Proofs.YtbfchadcpokjoaaGreatDoor
open Go.RowKit Go.Maps

theorem Own.sub {w : World} {S : Nat → Prop} {A M : Nat} {L L' : Ents} (h : Own w S A M L) (hs : ∀ e ∈ L', e ∈ L) : Own w S A M L' :=
  ⟨h.sA, h.sM, fun e he => h.sB e (hs e he), fun e he => h.sD e (hs e he), fun e he => h.dat e (hs e he), fun a ha b hb => h.apB a (hs a ha) b (hs b hb), fun a ha b hb => h.apD a (hs a ha) b (hs b hb)⟩
theorem dat_ne {w : World} {v : Value} {bs : Bs} {A M : Nat} {wt clk rm : Int} (h : Dat w v bs) (hf : Fb w A M wt clk rm) : ∀ g, v.ownBlock = some g → g ≠ A := by
  intro g hg e
  obtain ⟨cur, hc⟩ := h.elem g hg
  unfold Fb at hf
  rw [e, hf] at hc
  simp at hc
theorem dat_ne_map {w : World} {v : Value} {bs : Bs} {M : Nat} {L : Ents} (h : Dat w v bs) (hm : Mp w M L) : ∀ g, v.ownBlock = some g → g ≠ M := by
  intro g hg e
  obtain ⟨cur, hc⟩ := h.elem g hg
  obtain ⟨es, c, hmm⟩ := hm.isMap
  rw [e, hmm] at hc
  cases hc
theorem dat_ne_node {w : World} {v : Value} {bs : Bs} {e : En} (h : Dat w v bs) (hn : NodeAt w e) : ∀ g, v.ownBlock = some g → g ≠ e.blk := by
  intro g hg e1
  obtain ⟨cur, hc⟩ := h.elem g hg
  unfold NodeAt at hn
  rw [e1, hn] at hc
  simp at hc
theorem Mp.congr {w : World} {M : Nat} {L L' : Ents} (h : Mp w M L) (hb : blks L' = blks L) : Mp w M L' := by
  have hl : L'.length = L.length := by have := congrArg List.length hb; simpa [blks] using this
  unfold Mp at h ⊢
  rw [hb, hl]; exact h
theorem put_aged (L : Ents) (p : Bs) (e : En) (t : Int) : blks (put L p (aged e t)) = blks (put L p e) := by rw [blks_put, blks_put]; rfl

/-- the blocks that are added with a node -/
def withNode (S : Nat → Prop) (e : En) : Nat → Prop := fun i => S i ∨ i = e.blk ∨ e.dv.ownBlock = some i
/-- a node is laid at p -/
theorem fs_put {w w3 : World} {S : Nat → Prop} {A M : Nat} {L : Ents} {wt clk rm wt' clk' : Int} {p : Bs} {e : En} {t : Int} (h : FsAt w A M L wt clk rm) (o : Own w S A M (del L p)) (hp : p.length ≤ 1000)
    (hn : NodeAt w e) (hd : Dat w e.dv e.nd.data) (hfb : ∀ x ∈ del L p, x.2.blk ≠ e.blk) (hfd : ∀ x ∈ del L p, ∀ g, x.2.dv.ownBlock = some g → e.dv.ownBlock ≠ some g)
    (h3 : Fb w3 A M wt' clk' rm) (m3 : Mp w3 M (put L p e)) (n3 : NodeAt w3 (aged e t)) (ht : Turn (Three A M e.blk) w w3) :
    FsAt w3 A M (put L p (aged e t)) wt' clk' rm ∧ Own w3 (withNode S e) A M (put L p (aged e t)) := by
  have hA := node_ne hn h.fb
  have hM := node_ne_map hn h.mp
  have keepB : ∀ x ∈ del L p, w3.heap[x.2.blk]? = w.heap[x.2.blk]? := fun x hx => by
    have hx' := h.nodes x (mem_del.1 hx).1
    refine ht.block _ hx'.lt (fun hs => ?_)
    rcases hs with e1 | e1 | e1
    · exact node_ne hx' h.fb e1
    · exact node_ne_map hx' h.mp e1
    · exact hfb x hx e1
  have keepD : ∀ x ∈ del L p, ∀ g, x.2.dv.ownBlock = some g → w3.heap[g]? = w.heap[g]? := fun x hx g hg => by
    have hx' := o.dat x hx
    refine ht.block _ (hx'.lt g hg) (fun hs => ?_)
    rcases hs with e1 | e1 | e1
    · exact dat_ne hx' h.fb g hg e1
    · exact dat_ne_map hx' h.mp g hg e1
    · exact dat_ne_node hx' hn g hg e1
  have keepE : ∀ g, e.dv.ownBlock = some g → w3.heap[g]? = w.heap[g]? := fun g hg => by
    refine ht.block _ (hd.lt g hg) (fun hs => ?_)
    rcases hs with e1 | e1 | e1
    · exact dat_ne hd h.fb g hg e1
    · exact dat_ne_map hd h.mp g hg e1
    · exact dat_ne_node hd hn g hg e1
  have hd3 : Dat w3 e.dv e.nd.data := hd.kept keepE
  have cases_ : ∀ x ∈ put L p (aged e t), x = (p, aged e t) ∨ x ∈ del L p := fun x hx => by
    rcases mem_put.1 hx with h1 | h1
    · exact .inl h1
    · exact .inr (mem_del.2 h1)
  refine ⟨⟨h3, m3.congr (put_aged L p e t), ?_, ?_, h.srt.put _ _, ?_⟩, ⟨.inl o.sA, .inl o.sM, ?_, ?_, ?_, ?_, ?_⟩⟩
  · intro x hx
    rcases cases_ x hx with rfl | hx
    · exact n3
    · exact (keepB x hx).trans (h.nodes x (mem_del.1 hx).1)
  · intro x hx
    rcases cases_ x hx with rfl | hx
    · exact hd3.rds
    · exact ((o.dat x hx).kept (keepD x hx)).rds
  · intro x hx
    rcases cases_ x hx with rfl | hx
    · exact hp
    · exact h.keys x (mem_del.1 hx).1
  · intro x hx
    rcases cases_ x hx with rfl | hx
    · exact .inr (.inl rfl)
    · exact .inl (o.sB x hx)
  · intro x hx g hg
    rcases cases_ x hx with rfl | hx
    · exact .inr (.inr hg)
    · exact .inl (o.sD x hx g hg)
  · intro x hx
    rcases cases_ x hx with rfl | hx
    · exact hd3
    · exact (o.dat x hx).kept (keepD x hx)
  · intro a ha b hb hab
    rcases cases_ a ha with rfl | ha
    · rcases cases_ b hb with rfl | hb
      · rfl
      · exact absurd hab.symm (hfb b hb)
    · rcases cases_ b hb with rfl | hb
      · exact absurd hab (hfb a ha)
      · exact o.apB a ha b hb hab
  · intro a ha b hb g hga hgb
    rcases cases_ a ha with rfl | ha
    · rcases cases_ b hb with rfl | hb
      · rfl
      · exact absurd hga (hfd b hb g hgb)
    · rcases cases_ b hb with rfl | hb
      · exact absurd hgb (hfd a ha g hga)
      · exact o.apD a ha b hb g hga hgb

/-- a file system with the tree T, its blocks among S -/
structure IsFs (w : World) (S : Nat → Prop) (A : Nat) (T : List (Bs × Nd)) (clk rm : Int) : Prop where
  mem : ∃ M L, FsAt w A M L (weight T) clk rm ∧ Own w S A M L ∧ nds L = T
  wt : (weight T : Int) ≤ rm
  rm : rm ≤ 1048576
  clk0 : 0 ≤ clk
  len : T.length ≤ 1000
theorem sumOf_ge {α : Type} (f : α → Nat) {L : List (Bs × α)} {x : Bs × α} (h : x ∈ L) : f x.2 ≤ sumOf f L := by
  induction L with
  | nil => cases h
  | cons y r ih =>
    rcases List.mem_cons.1 h with rfl | h
    · simp only [sumOf]; omega
    · have := ih h; simp only [sumOf]; omega
theorem sumOf_length {α : Type} (f : α → Nat) (L : List (Bs × α)) (h : ∀ x, 1 ≤ f x) : L.length ≤ sumOf f L := by
  induction L with
  | nil => exact Nat.le_refl _
  | cons y r ih => have := h y.2; simp only [sumOf, List.length_cons]; omega
theorem weight_nds (L : Ents) : weight (nds L) = sumOf (fun e => e.nd.wt) L := sumOf_map _ _ _
theorem data_le {L : Ents} {n : Nat} (h : weight (nds L) ≤ n) : ∀ e ∈ L, e.2.nd.data.length ≤ n := fun e he => by
  rw [weight_nds] at h
  have := sumOf_ge (fun e : En => e.nd.wt) he
  simp only [Nd.wt] at this
  simp only [Nd.wt] at h
  omega
theorem len_le {L : Ents} {n : Nat} (h : weight (nds L) ≤ n) : L.length ≤ n := by
  rw [weight_nds] at h
  have := sumOf_length (fun e : En => e.nd.wt) L (fun e => by simp only [Nd.wt]; omega)
  simp only [Nd.wt] at this
  simp only [Nd.wt] at h
  omega
theorem wtAt_sum {L : Ents} (h : Srt L) (p : Bs) : sumOf (fun e : En => e.nd.wt) (del L p) + wtAt L p = sumOf (fun e : En => e.nd.wt) L := by
  have := sumOf_del (fun e : En => e.nd.wt) h p
  unfold wtAt
  cases hf : fnd L p <;> rw [hf] at this <;> exact this
theorem weight_put {L : Ents} (h : Srt L) (p : Bs) (e : En) : (weight (nds (put L p e)) : Int) = weight (nds L) - wtAt L p + e.nd.wt := by
  rw [weight_nds, weight_nds, sumOf_put]
  have := wtAt_sum h p
  omega
theorem weight_del {L : Ents} (h : Srt L) (p : Bs) : (weight (nds (del L p)) : Int) = weight (nds L) - wtAt L p := by
  rw [weight_nds, weight_nds]
  have := wtAt_sum h p
  omega
theorem IsFs.below {w w' : World} {S : Nat → Prop} {A : Nat} {T : List (Bs × Nd)} {clk rm : Int} (h : IsFs w S A T clk rm) (hb : Below w.heap.size w w') : IsFs w' S A T clk rm := by
  obtain ⟨M, L, h1, h2, h3⟩ := h.mem
  exact ⟨⟨M, L, h1.below hb, h2.below hb, h3⟩, h.wt, h.rm, h.clk0, h.len⟩
theorem IsFs.apart {w w' : World} {S : Nat → Prop} {A : Nat} {T : List (Bs × Nd)} {clk rm : Int} (h : IsFs w S A T clk rm) (hs : w.heap.size ≤ w'.heap.size) (hk : ∀ b, S b → w'.heap[b]? = w.heap[b]?) : IsFs w' S A T clk rm := by
  obtain ⟨M, L, h1, h2, h3⟩ := h.mem
  exact ⟨⟨M, L, h1.apart h2 hs hk, h2.apart hk, h3⟩, h.wt, h.rm, h.clk0, h.len⟩
end Go.Proofs.YtbfchadcpokjoaaGreatDoor
