/- The contracts of vfs.cut at bytes, vfs.own, (*node).weight, (*FS).drop, set, fasten. -/
import Derived.Test.YtabmnkddmdffkaaGreatDoorAZm
import Derived.Deep.RegionWith
namespace Go.Proofs.YtabmnkddmdffkaaGreatDoor
open Go.RowKit Go.Maps

theorem i64_id (n : Int) (h : -9223372036854775808 ≤ n ∧ n ≤ 9223372036854775807) : IntKind.i64.wrap n = n := by rw [IntKind.wrap_i64]; omega
theorem w64_id (n : Int) (h : -9223372036854775808 ≤ n ∧ n ≤ 9223372036854775807) : wrap64 n = n := by unfold wrap64; omega
theorem cut_nil (w : World) : Calls Tryz.prog 71 #[.slice none 0 0] w fun r w' => r = .returned (.slice none 0 0) ∧ w' = w := by
  go_enter Tryz.func71, Tryz.ntmps71
  go_wp2
  go_ret
  exact ⟨rfl, rfl⟩
theorem cut_some (g n cap : Nat) (h : n ≤ cap) (_hc : cap ≤ maxLen) (w : World) : Calls Tryz.prog 71 #[.slice (some ⟨g, 0, none⟩) n cap] w fun r w' => r = .returned (.slice (some ⟨g, 0, none⟩) n n) ∧ w' = w := by
  unfold maxLen at _hc
  go_enter Tryz.func71, Tryz.ntmps71
  go_wp2
  go_ret
  exact ⟨rfl, rfl⟩
/-- vfs.own: new bytes -/
theorem own_any (v : Value) (bs : Bs) (w : World) (hv : Rds w v bs) (hsz : bs.length ≤ 1099511627776) :
    Calls Tryz.prog 43 #[v] w fun r w' => ∃ v', r = .returned v' ∧ Dat w' v' bs ∧ (∀ g, v'.ownBlock = some g → g = w.heap.size) ∧ Below w.heap.size w w' := by
  go_enter Tryz.func43, Tryz.ntmps43
  go_wp2_with (at_builtin; refine wpList_append_dat _ rfl _ _ rfl rfl rfl (Dat.nil _) hv (by simpa using hsz) ?_)
  intro v' w1 hd _ hg ho
  have hb : Below w.heap.size w w1 := ⟨hg.os, hg.tape, hg.output, hg.size, fun k hk => hg.block k hk (by simp [Value.ownBlock])⟩
  rcases hd with ⟨rfl, rfl⟩ | ⟨g, cap, cur, rfl, hgb, h1, h2, h3, h4⟩
  · go_wp2_with (go_at_call 71; refine (cut_nil _).mono ?_; rintro e w2 ⟨rfl, rfl⟩)
    go_ret
    exact ⟨_, rfl, .inl ⟨rfl, rfl⟩, fun g e => (by simp [Value.ownBlock] at e), hb⟩
  · go_wp2_with (go_at_call 71; refine (cut_some g bs.length cap h1 h3 _).mono ?_; rintro e w2 ⟨rfl, rfl⟩)
    go_ret
    refine ⟨_, rfl, .inr ⟨g, bs.length, cur, rfl, hgb, Nat.le_refl _, by omega, by omega, h4⟩, fun g' e => ?_, hb⟩
    cases e
    rcases ho with ho | ho
    · simp [Value.ownBlock] at ho
    · simpa [Value.ownBlock] using ho

theorem weight_any (e : En) (w : World) (hn : NodeAt w e) (hl : ∃ a cap, e.dv = .slice a e.nd.data.length cap) (hsz : e.nd.data.length ≤ 1099511627776) :
    Calls Tryz.prog 80 #[.pointer (some ⟨e.blk, 0, none⟩)] w fun r w' => r = .returned (.int .i64 (e.nd.wt : Nat)) ∧ w' = w := by
  obtain ⟨a, cap, hv⟩ := hl
  have c2 := hn.c2
  rw [hv] at c2
  have hw : ((e.nd.wt : Nat) : Int) = 1 + (e.nd.data.length : Int) := by unfold Nd.wt; omega
  rw [hw]
  generalize e.nd.data.length = n at c2 hsz
  clear hw hv hn
  go_enter Tryz.func80, Tryz.ntmps80
  go_wp2
  go_ret
  exact ⟨rfl, rfl⟩
/-- but for the file system's own block and its map nothing has turned -/
abbrev Two (A M : Nat) : Nat → Prop := fun k => k = A ∨ k = M
theorem neq_ptr_nil (b : Nat) (w : World) : (binOp .neq 97 (.pointer (some ⟨b, 0, none⟩)) (.pointer none)).run Tryz.prog w = .ok (.bool true) w := by kernel_rfl
theorem neq_nil_nil (w : World) : (binOp .neq 97 (.pointer none) (.pointer none)).run Tryz.prog w = .ok (.bool false) w := by kernel_rfl

/-- what is given: the node's weight, if there is one -/
def wtAt (L : Ents) (p : Bs) : Nat := match fnd L p with | some e => e.nd.wt | none => 0

theorem Mp.ne {w : World} {A M : Nat} {L : Ents} {wt clk rm : Int} (h : Mp w M L) (f : Fb w A M wt clk rm) : M ≠ A := by
  obtain ⟨es, c, hm⟩ := h.isMap
  intro e
  rw [e] at hm
  unfold Fb at f
  rw [f] at hm
  cases hm
theorem Fb.kept {w w' : World} {A M : Nat} {wt clk rm : Int} (h : Fb w A M wt clk rm) (hk : w'.heap[A]? = w.heap[A]?) : Fb w' A M wt clk rm := hk.trans h
theorem turn_set {A M : Nat} (w : World) (j : Nat) (v : Value) : Turn (Two A M) w (w.setCell ⟨A, j, none⟩ v) :=
  ⟨rfl, rfl, rfl, Nat.le_of_eq (by simp), fun k _ hn => Below.heap_setCell _ _ _ _ fun e => hn (.inl e)⟩
set_option maxHeartbeats 1000000 in
theorem drop_some (A M : Nat) (L : Ents) (wt clk rm : Int) (p : Bs) (e : En) (w : World) (h : FsAt w A M L wt clk rm) (hf : fnd L p = some e) (hp : p.length ≤ 1000) (hw0 : -1099511627776 ≤ wt) (hw1 : wt ≤ 1099511627776) (hsz : e.nd.data.length ≤ 1099511627776) :
    Calls Tryz.prog 79 #[.pointer (some ⟨A, 0, none⟩), .string (mk p)] w fun r w' => r = .returned (.tuple #[]) ∧ Fb w' A M (wt - e.nd.wt) clk rm ∧ Mp w' M (del L p) ∧ Turn (Two A M) w w' := by
  have hm : (p, e) ∈ L := fnd_mem hf
  have hpm : p.length ≤ maxLen := by unfold maxLen; omega
  have hl := h.mp.look p hpm
  rw [hf] at hl
  have c0 := h.fb.c0
  have c1 := h.fb.c1
  have f1 := h.fb.fz 1
  have hn := h.nodes _ hm
  have q := weight_any e w.drew hn (h.rds _ hm).len hsz
  have hwt : e.nd.wt ≤ 1099511627777 := by unfold Nd.wt; omega
  have nq := neq_ptr_nil e.blk
  have hfb := h.fb
  have hmp := h.mp
  have hne := hmp.ne hfb
  clear hf h hsz
  simp only [Option.map, ptrOf] at hl
  generalize e.nd.wt = n at q hwt
  obtain ⟨x, hx⟩ : ∃ x, x = wt - (n : Int) := ⟨_, rfl⟩
  have hwr : IntKind.i64.wrap (wt - (n : Int)) = x := by rw [hx]; exact i64_id _ ⟨by omega, by omega⟩
  have hw6 : wrap64 (wt - (n : Int)) = x := by rw [hx]; exact w64_id _ ⟨by omega, by omega⟩
  rw [← hx]
  clear hx
  have hmp2 : Mp (w.setCell ⟨A, 1, none⟩ (.int .i64 x)).drew M L := hmp.kept (Below.heap_setCell _ _ _ _ hne)
  have hfb2 : Fb (w.setCell ⟨A, 1, none⟩ (.int .i64 x)).drew A M x clk rm := hfb.set1 x
  have ht2 : Turn (Two A M) w (w.setCell ⟨A, 1, none⟩ (.int .i64 x)).drew := (turn_set w 1 _).drew
  have c2 : (w.setCell ⟨A, 1, none⟩ (.int .i64 x)).cell? ⟨A, 0, none⟩ = some (.map (some M)) := (hfb.set1 x).c0
  clear hn hm hw0 hw1 hwt
  go_enter Tryz.func79, Tryz.ntmps79
  go_wp2
  go_region_with (go_at_call 80; refine q.mono ?_; rintro e w' ⟨rfl, rfl⟩)
  all_goals
    go_wp2_with (at_delete; refine wpList_del _ rfl _ _ rfl M L rfl hmp2 p hpm rfl ?_; intro w3 hm3 hg3)
    go_end0
    exact ⟨rfl, hfb2.kept (hg3.block A hfb2.lt (fun e => hne (Option.some.inj e).symm)), hm3, ht2.trans' (Turn.of_grown hg3 fun k e => .inr (Option.some.inj e).symm)⟩
theorem drop_none (A M : Nat) (L : Ents) (wt clk rm : Int) (p : Bs) (w : World) (h : FsAt w A M L wt clk rm) (hf : fnd L p = none) (hp : p.length ≤ 1000) :
    Calls Tryz.prog 79 #[.pointer (some ⟨A, 0, none⟩), .string (mk p)] w fun r w' => r = .returned (.tuple #[]) ∧ w' = w := by
  have hl := h.mp.look p (by unfold maxLen; omega)
  rw [hf] at hl
  simp only [Option.map, ptrOf] at hl
  have c0 := h.fb.c0
  have nq := neq_nil_nil
  clear h hf
  go_enter Tryz.func79, Tryz.ntmps79
  go_wp2
  go_end0
  exact ⟨rfl, rfl⟩
/-- drop: what is there goes, with its weight -/
theorem drop_any (A M : Nat) (L : Ents) (wt clk rm : Int) (p : Bs) (w : World) (h : FsAt w A M L wt clk rm) (hp : p.length ≤ 1000) (hw0 : -1099511627776 ≤ wt) (hw1 : wt ≤ 1099511627776) (hsz : ∀ e ∈ L, e.2.nd.data.length ≤ 1099511627776) :
    Calls Tryz.prog 79 #[.pointer (some ⟨A, 0, none⟩), .string (mk p)] w fun r w' => r = .returned (.tuple #[]) ∧ Fb w' A M (wt - wtAt L p) clk rm ∧ Mp w' M (del L p) ∧ Turn (Two A M) w w' := by
  unfold wtAt
  cases hf : fnd L p with
  | none =>
    refine (drop_none A M L wt clk rm p w h hf hp).mono ?_
    rintro e w' ⟨rfl, rfl⟩
    refine ⟨rfl, ?_, ?_, Turn.refl _ _⟩
    · have : wt - ((0 : Nat) : Int) = wt := by omega
      rw [this]; exact h.fb
    · rw [del_none hf]; exact h.mp
  | some e => exact drop_some A M L wt clk rm p e w h hf hp hw0 hw1 (hsz _ (fnd_mem hf))

set_option maxHeartbeats 1000000 in
/-- set: n lies at p, its weight beside the others' -/
theorem set_any (A M : Nat) (L : Ents) (wt clk rm : Int) (p : Bs) (e : En) (w : World) (h : FsAt w A M L wt clk rm) (hp : p.length ≤ 1000) (hw0 : -549755813888 ≤ wt) (hw1 : wt ≤ 549755813888) (hsz : ∀ e ∈ L, e.2.nd.data.length ≤ 549755813888)
    (hn : NodeAt w e) (hd : Rds w e.dv e.nd.data) (hes : e.nd.data.length ≤ 549755813888) (hlen : L.length ≤ 1000000) :
    Calls Tryz.prog 50 #[.pointer (some ⟨A, 0, none⟩), .string (mk p), .pointer (some ⟨e.blk, 0, none⟩)] w fun r w' => r = .returned (.tuple #[]) ∧ Fb w' A M (wt - wtAt L p + e.nd.wt) clk rm ∧ Mp w' M (put L p e) ∧ Turn (Two A M) w w' := by
  have q1 := drop_any A M L wt clk rm p w h hp (by omega) (by omega) (fun x hx => Nat.le_trans (hsz x hx) (by omega))
  have hpm : p.length ≤ maxLen := by unfold maxLen; omega
  have hA : e.blk ≠ A := by
    intro e1
    have := hn
    unfold NodeAt at this
    rw [e1] at this
    have h2 := h.fb
    unfold Fb at h2
    rw [h2] at this
    simp at this
  have hM : e.blk ≠ M := by
    intro e1
    have := hn
    unfold NodeAt at this
    obtain ⟨es, c, hm⟩ := h.mp.isMap
    rw [e1, hm] at this
    cases this
  have hwb : (wtAt L p : Int) ≤ 549755813889 := by
    unfold wtAt
    cases hf : fnd L p with
    | none => simp
    | some x => have : x.nd.data.length ≤ 549755813888 := hsz _ (fnd_mem hf); simp only [Nd.wt]; omega
  have hew : e.nd.wt ≤ 549755813889 := by unfold Nd.wt; omega
  have hl := hd.len
  have hes' : e.nd.data.length ≤ 1099511627776 := by omega
  have hlen' : (del L p).length ≤ 1000000 := Nat.le_trans (del_length_le L p) hlen
  have hdl : fnd (del L p) p = none := fnd_del_same L p
  have hpd : put (del L p) p e = put L p e := by unfold put; rw [del_none hdl]
  clear hsz hes hlen hd
  generalize wtAt L p = d at q1 hwb
  have hx0 : -1099511627777 ≤ wt - (d : Int) := by omega
  have hx1 : wt - (d : Int) ≤ 1099511627776 := by omega
  generalize wt - (d : Int) = x at q1 hx0 hx1
  clear hw0 hw1 hwb h d
  go_enter Tryz.func50, Tryz.ntmps50
  go_wp2_with fail
  refine q1.mono ?_
  rintro r w1 ⟨rfl, hf1, hm1, ht1⟩
  have c0 := hf1.c0
  have hne := hm1.ne hf1
  go_wp2_with (at_mapUpdate; refine wpList_put _ rfl _ _ _ rfl M (del L p) rfl hm1 hlen' p hpm e rfl rfl ?_; intro w2 hm2 hg2)
  have hf2 : Fb w2 A M x clk rm := hf1.kept (hg2.block A hf1.lt (fun e => hne (Option.some.inj e).symm))
  have hn1 : NodeAt w1 e := (ht1.block _ hn.lt (fun hs => by rcases hs with h | h; exact hA h; exact hM h)).trans hn
  have hn2 : NodeAt w2 e := (hg2.block _ hn1.lt (fun e => hM (Option.some.inj e))).trans hn1
  have q2 := weight_any e w2.drew hn2 hl hes'
  have ht2 : Turn (Two A M) w w2 := ht1.trans' (Turn.of_grown hg2 fun k e => .inr (Option.some.inj e).symm)
  rw [hpd] at hm2
  have c0 := hf2.c0
  have c1 := hf2.c1
  have f1 := hf2.fz 1
  obtain ⟨y, hy⟩ : ∃ y, y = x + (e.nd.wt : Int) := ⟨_, rfl⟩
  have Hy := hide' hy
  generalize e.nd.wt = n at q2 hew hy
  have hwr : IntKind.i64.wrap (x + (n : Int)) = y := by rw [hy]; exact i64_id _ ⟨by omega, by omega⟩
  have hw6 : wrap64 (x + (n : Int)) = y := by rw [hy]; exact w64_id _ ⟨by omega, by omega⟩
  have hmp2 : Mp (w2.setCell ⟨A, 1, none⟩ (.int .i64 y)).drew M (put L p e) := hm2.kept (Below.heap_setCell _ _ _ _ hne)
  have hfb2 : Fb (w2.setCell ⟨A, 1, none⟩ (.int .i64 y)).drew A M y clk rm := hf2.set1 y
  have ht3 : Turn (Two A M) w (w2.setCell ⟨A, 1, none⟩ (.int .i64 y)).drew := (ht2.trans' (turn_set w2 1 _)).drew
  clear hx0 hx1 hew hy hm1 hm2 hf1 hf2 hn1 hn2 ht1 ht2 hg2 hl hn q1
  go_wp2
  go_region_with (go_at_call 80; refine q2.mono ?_; rintro e w' ⟨rfl, rfl⟩)
  all_goals
    go_wp2
    go_end0
    rw [← Hy.out]
    exact ⟨rfl, hfb2, hmp2, ht3⟩
end Go.Proofs.YtabmnkddmdffkaaGreatDoor
