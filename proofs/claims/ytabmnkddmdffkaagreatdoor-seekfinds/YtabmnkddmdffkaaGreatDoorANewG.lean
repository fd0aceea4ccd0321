import Derived.Test.YtabmnkddmdffkaaGreatDoorAFits
namespace Go.Proofs.YtabmnkddmdffkaaGreatDoor
open Go.RowKit Go.Maps
theorem less_before : ∀ x y : Bs, Op.bytesLess x y = bytesBefore x y
 | [], [] => by simp [Op.bytesLess, bytesBefore]
 | _ :: _, [] => by simp [Op.bytesLess, bytesBefore]
 | [], _ :: _ => by simp [Op.bytesLess, bytesBefore]
 | x :: r, y :: s => by simp [Op.bytesLess, bytesBefore, less_before r s]
theorem mk_toList (p : Bs) : (mk p).toList = p := by rw [Lib.toList_data]
theorem leq_yes {p q : Bs} (h : bytesBefore q p = true) : Op.bytesLess (mk p).toList (mk q).toList = false ∧ ((mk p).toList == (mk q).toList) = false := by
 rw [mk_toList, mk_toList, less_before]
 exact ⟨before_asymm h, beq_eq_false_iff_ne.2 (before_ne h).symm⟩
theorem leq_no {p q : Bs} (h : bytesBefore q p = false) : (Op.bytesLess (mk p).toList (mk q).toList = true) ∨ (Op.bytesLess (mk p).toList (mk q).toList = false ∧ ((mk p).toList == (mk q).toList) = true) := by
 rw [mk_toList, mk_toList, less_before]
 rcases before_total p q with e | e | e
 ·exact .inl e
 ·rw [e]; exact .inr ⟨before_irrefl _, by simp⟩
 ·rw [h] at e; cases e
def upDirN : Lk Nd → Bool
 | .rt => true
 | .is e => e.dir
 | _ => false
def fitN (T : Tr) (clk : Int) (n : Nv) : Bool := fitB1 clk n && upDirN (lookN T (parent n.path))
theorem fitN_nds (L : Ents) (clk : Int) (n : Nv) : fitN (nds L) clk n = fitB L clk n := by
 unfold fitN fitB
 rw [lookV_nd]
 cases lookV L (parent n.path) <;> rfl
def stepP (clk : Int) (st : Option (Bs × Tr)) (n : Nv) : Option (Bs × Tr) :=
 match st with
 | none => none
 | some (ah, T) => if bytesBefore ah n.path && fitN T clk n then some (n.path, put T n.path n.nd) else none
def plantR (clk : Int) (ns : List Nv) : Option (Bs × Tr) := ns.foldl (stepP clk) (some ([], []))
theorem stepP_none (clk : Int) (ns : List Nv) : ns.foldl (stepP clk) none = none := by
 induction ns with
 | nil => rfl
 | cons n r ih => exact ih
theorem plant_take {clk : Int} {ns : List Nv} {k : Nat} {n : Nv} (hn : ns[k]? = some n) : plantR clk (ns.take (k + 1)) = stepP clk (plantR clk (ns.take k)) n := by
 unfold plantR
 rw [List.take_add_one, List.foldl_append, hn]
 rfl
theorem plant_none {clk : Int} {ns : List Nv} {k : Nat} (h : plantR clk (ns.take k) = none) : plantR clk ns = none := by
 unfold plantR at h ⊢
 conv => lhs; rw [← List.take_append_drop k ns]
 rw [List.foldl_append, h, stepP_none]
def okTree (clk rm : Int) : Prop := 0 ≤ clk ∧ clk ≤ 1099511627776 ∧ 0 ≤ rm ∧ rm ≤ 1048576
instance (clk rm : Int) : Decidable (okTree clk rm) := by unfold okTree; infer_instance
def newR (ns : List Nv) (clk rm : Int) : Er ⊕ Tr :=
 match lenR ns with
 | .ok => if okTree clk rm then match plantR clk ns with
   | none => .inl (.no 1)
   | some (_, T) => if rm < (weight T : Int) then .inl (.no 15) else .inr T
  else .inl (.no 1)
 | e => .inl e
theorem fs_lay {w w' : World} {A M : Nat} {L : Ents} {wt wt' clk rm : Int} {p : Bs} {e : En} (h : FsAt w A M L wt clk rm) (hd : ∀ x ∈ L, x.2.nd.data ≠ [] → ∀ g, x.2.dv.ownBlock = some g → g ≠ A ∧ g ≠ M) (hn : NodeAt w e) (hr : Rds w e.dv e.nd.data)
  (he : e.nd.data ≠ [] → ∀ g, e.dv.ownBlock = some g → g ≠ A ∧ g ≠ M) (hp : p.length ≤ 1000) (hf : Fb w' A M wt' clk rm) (hm : Mp w' M (put L p e)) (ht : Turn (Two A M) w w') : FsAt w' A M (put L p e) wt' clk rm := by
 refine ⟨hf, hm, fun x hx => ?_, fun x hx => ?_, h.srt.put p e, fun x hx => ?_⟩
 ·rcases mem_put.1 hx with rfl | ⟨hx, _⟩
  ·exact (ht.block _ hn.lt fun s => s.elim (node_ne hn h.fb) (node_ne_map hn h.mp)).trans hn
  ·have q := h.nodes x hx
   exact (ht.block _ q.lt fun s => s.elim (node_ne q h.fb) (node_ne_map q h.mp)).trans q
 ·rcases mem_put.1 hx with rfl | ⟨hx, _⟩
  ·exact hr.kept ht.size fun hne g hg => ht.block g (rds_lt hr hne g hg) fun s => s.elim (he hne g hg).1 (he hne g hg).2
  ·have q := h.rds x hx
   exact q.kept ht.size fun hne g hg => ht.block g (rds_lt q hne g hg) fun s => s.elim (hd x hx hne g hg).1 (hd x hx hne g hg).2
 ·rcases mem_put.1 hx with rfl | ⟨hx, _⟩
  ·exact hp
  ·exact h.keys x hx
def PlAt (E : Addr) (clk rm : Int) (w : World) (r : Ending) (w' : World) (o : Er ⊕ Tr) : Prop :=
 Below w.heap.size w w' ∧ match o with
 | .inl k => ∃ v, r = .returned (.tuple #[.pointer none, v]) ∧ IsErr w' E v k ∧ k ≠ .ok
 | .inr T => ∃ G, r = .returned (.tuple #[.pointer (some ⟨G, 0, none⟩), .nilIface]) ∧ IsFs w' (fun i => w.heap.size ≤ i) G T clk rm
set_option maxHeartbeats 1000000 in
theorem planted_len (E : Addr) (v : Value) (ns : List Nv) (clk rm : Int) (w : World) (h : Nodes w v ns) (hl : lenR ns = .no 2) :
  Calls Tryz.prog 21 #[.agg #[v, .int .i64 clk, .int .i64 rm]] w fun r w' => PlAt E clk rm w r w' (.inl (.no 2)) := by
 have hb0 : Below w.heap.size w (w.alloc (.cells #[v, .int .i64 clk, .int .i64 rm] 24)) := (Below.refl _ _).alloc (Nat.le_refl _) _
 have q := lengths_any E v ns clk rm _ (h.below hb0)
 rw [hl] at q
 obtain ⟨a, cap, rfl⟩ := h.len
 generalize ns.length = n at *
 clear h hl
 go_enter Tryz.func21, Tryz.ntmps21
 go_wp2_with fail
 refine q.mono ?_
 rintro r w1 ⟨⟨v, rfl, b, rfl, hf⟩, hb1⟩
 go_wp2
 go_ret2
 exact ⟨hb0.trans (hb1.mono hb0.size), _, rfl, ⟨b, rfl, hf⟩, by simp⟩
set_option maxHeartbeats 2000000 in
theorem planted_arg (E : Addr) (v : Value) (ns : List Nv) (clk rm : Int) (w : World) (h : Nodes w v ns) (hl : lenR ns = .ok) (ho : ¬ okTree clk rm) :
  Calls Tryz.prog 21 #[.agg #[v, .int .i64 clk, .int .i64 rm]] w fun r w' => PlAt E clk rm w r w' (.inl (.no 1)) := by
 have hb0 : Below w.heap.size w (w.alloc (.cells #[v, .int .i64 clk, .int .i64 rm] 24)) := (Below.refl _ _).alloc (Nat.le_refl _) _
 have q := lengths_any E v ns clk rm _ (h.below hb0)
 rw [hl] at q
 obtain ⟨a, cap, rfl⟩ := h.len
 generalize ns.length = n at *
 have hbk := alloc_new w (.cells #[.slice a n cap, .int .i64 clk, .int .i64 rm] 24)
 clear h hl
 go_enter Tryz.func21, Tryz.ntmps21
 go_wp2_with fail
 refine q.mono ?_
 rintro r w1 ⟨⟨v, rfl, rfl⟩, hb1⟩
 have hbk1 := (hb1.block w.heap.size (by simp)).trans hbk
 have d0 : w1.cell? ⟨w.heap.size, 0, none⟩ = some (.slice a n cap) := by rw [Lib.cell_of_heap hbk1]; rfl
 have d1 : w1.cell? ⟨w.heap.size, 1, none⟩ = some (.int .i64 clk) := by rw [Lib.cell_of_heap hbk1]; rfl
 have d2 : w1.cell? ⟨w.heap.size, 2, none⟩ = some (.int .i64 rm) := by rw [Lib.cell_of_heap hbk1]; rfl
 have hB1 := hb0.trans (hb1.mono hb0.size)
 by_cases h1 : clk < 0
 ·go_wp2
  go_ret2
  exact ⟨hB1.alloc hB1.size _, _, rfl, isErr_alloc w1 E 1 _, by simp⟩
 by_cases h2 : 1099511627776 < clk
 ·go_wp2
  go_ret2
  exact ⟨hB1.alloc hB1.size _, _, rfl, isErr_alloc w1 E 1 _, by simp⟩
 by_cases h3 : rm < 0
 ·go_wp2
  go_ret2
  exact ⟨hB1.alloc hB1.size _, _, rfl, isErr_alloc w1 E 1 _, by simp⟩
 have h4 : 1048576 < rm := by unfold okTree at ho; omega
 go_wp2
 go_ret2
 exact ⟨hB1.alloc hB1.size _, _, rfl, isErr_alloc w1 E 1 _, by simp⟩
end Go.Proofs.YtabmnkddmdffkaaGreatDoor
namespace Go.Proofs.YtabmnkddmdffkaaGreatDoor
open Go.RowKit Go.Maps
structure PlC (b : Nat) (v : Value) (clk rm : Int) (w : World) : Prop where
 c0 : w.cell? ⟨b, 0, none⟩ = some v
 c1 : w.cell? ⟨b, 1, none⟩ = some (.int .i64 clk)
 c2 : w.cell? ⟨b, 2, none⟩ = some (.int .i64 rm)
theorem PlC.below {b : Nat} {v : Value} {clk rm : Int} {w w' : World} (h : PlC b v clk rm w) (hb : Below w.heap.size w w') (h1 : b < w.heap.size) : PlC b v clk rm w' :=
 ⟨(hb.cell (p := ⟨b, 0, none⟩) h1).trans h.c0, (hb.cell (p := ⟨b, 1, none⟩) h1).trans h.c1, (hb.cell (p := ⟨b, 2, none⟩) h1).trans h.c2⟩
theorem fs_new (w1 : World) (clk rm : Int) : FsAt ((w1.alloc (.map #[] 0)).alloc (.cells #[.map (some w1.heap.size), .int .i64 0, .int .i64 clk, .int .i64 rm] 94)) (w1.heap.size + 1) w1.heap.size [] (weight []) clk rm := by
 refine ⟨?_, ?_, fun e he => (by cases he), fun e he => (by cases he), List.Pairwise.nil, fun e he => (by cases he)⟩
 ·have q := alloc_new (w1.alloc (.map #[] 0)) (.cells #[.map (some w1.heap.size), .int .i64 0, .int .i64 clk, .int .i64 rm] 94)
  rw [size_alloc'] at q
  exact q
 ·have q := World.ownsMap_made (H := Unit) w1 Tryz.prog 9 ptrElem
  exact Mp.kept (w := w1.alloc (.map #[] 0)) q (Below.heap_alloc _ _ _ (by simp))
theorem long_len {n : Nv} {clk : Int} (h : long n = false) (hf : fitB1 clk n = true) : n.nd.data.length ≤ 65536 := by
 unfold long at h
 unfold fitB1 at hf
 cases hd : n.nd.dir with
 | false => rw [hd] at h; simp at h; exact h
 | true => rw [hd] at hf; simp at hf; have := hf.2.2.2; simp [this]
theorem wt_put_le {L : Ents} (h : Srt L) (p : Bs) (e : En) : weight (nds (put L p e)) ≤ weight (nds L) + e.nd.wt := by
 have := weight_put h p e
 omega
theorem leq_yes' {p q : Bs} (h : bytesBefore q p = true) : Op.bytesLess p q = false ∧ ¬ p = q := by
 have := leq_yes h
 rw [mk_toList, mk_toList] at this
 exact ⟨this.1, beq_eq_false_iff_ne.1 this.2⟩
theorem leq_no' {p q : Bs} (h : bytesBefore q p = false) : (Op.bytesLess p q = true) ∨ (Op.bytesLess p q = false ∧ p = q) := by
 have := leq_no h
 rw [mk_toList, mk_toList] at this
 exact this.imp id fun x => ⟨x.1, beq_iff_eq.1 x.2⟩
theorem Own.mono {w : World} {S S' : Nat → Prop} {A M : Nat} {L : Ents} (h : Own w S A M L) (hs : ∀ i, S i → S' i) : Own w S' A M L :=
 ⟨hs _ h.sA, hs _ h.sM, fun e he => hs _ (h.sB e he), fun e he g hg => hs _ (h.sD e he g hg), h.dat, h.apB, h.apD⟩
theorem IsErr.drew {W : World} {E : Addr} {v : Value} {k : Er} (h : IsErr W E v k) : IsErr W.drew E v k := by
 cases k with
 | ok => exact h
 | no n => exact h
 | nothing => exact h
theorem plAt_err {E : Addr} {clk rm : Int} {w W : World} (hB : Below w.heap.size w W) (n : Nat) (p : ByteArray) : PlAt E clk rm w (.returned (.tuple #[.pointer none, .iface 105 (.pointer (some ⟨W.heap.size, 0, none⟩))])) (W.alloc (.cells #[.string p, .iface 31 (.int .i64 n)] 107)).drew (.inl (.no n)) :=
 ⟨(hB.alloc hB.size _).drew, _, rfl, (isErr_alloc W E n p).drew, by simp⟩
theorem plAt_err' {E : Addr} {clk rm : Int} {w W : World} (hB : Below w.heap.size w W) (n : Nat) (p : ByteArray) : PlAt E clk rm w (.returned (.tuple #[.pointer none, .iface 105 (.pointer (some ⟨W.heap.size, 0, none⟩))])) (W.alloc (.cells #[.string p, .iface 31 (.int .i64 n)] 107)) (.inl (.no n)) :=
 ⟨hB.alloc hB.size _, _, rfl, isErr_alloc W E n p, by simp⟩
theorem plAt_ok {E : Addr} {clk rm : Int} {w W w' : World} {G M' : Nat} {L L' : Ents} (hB : Below w.heap.size w W) (hb : Below W.heap.size W w') (hf : FsAt w' G M' L' (weight (nds L)) clk rm) (ho : Own w' (fun i => W.heap.size ≤ i) G M' L') (hn : nds L' = nds L) (hw : (weight (nds L) : Int) ≤ rm) (hrm : rm ≤ 1048576) (hk : 0 ≤ clk) (hl : L.length ≤ 1000) :
  PlAt E clk rm w (.returned (.tuple #[.pointer (some ⟨G, 0, none⟩), .nilIface])) w' (.inr (nds L)) :=
 ⟨hB.trans (hb.mono hB.size), G, rfl, ⟨M', L', hf, ho.mono fun i hi => Nat.le_trans hB.size hi, hn⟩, hw, hrm, hk, by rw [nds_length]; exact hl⟩
theorem newR_none {ns : List Nv} {clk rm : Int} (hl : lenR ns = .ok) (ho : okTree clk rm) (hp : plantR clk ns = none) : newR ns clk rm = .inl (.no 1) := by
 unfold newR; rw [hl]; simp only [if_pos ho, hp]
theorem newR_some {ns : List Nv} {clk rm : Int} {ah : Bs} {T : Tr} (hl : lenR ns = .ok) (ho : okTree clk rm) (hp : plantR clk ns = some (ah, T)) : newR ns clk rm = if rm < (weight T : Int) then .inl (.no 15) else .inr T := by
 unfold newR; rw [hl]; simp only [if_pos ho, hp]
theorem fit_valid {L : Ents} {clk : Int} {n : Nv} (h : fitB L clk n = true) : valid n.path = true ∧ fitB1 clk n = true := by
 unfold fitB at h
 rw [Bool.and_eq_true] at h
 have h1 := h.1
 unfold fitB1 at h1
 rw [Bool.and_eq_true] at h1
 exact ⟨h1.1, h.1⟩
set_option maxRecDepth 100000 in
set_option maxHeartbeats 4000000 in
theorem planted_row (B : Nat) (E : Addr) (g o cap : Nat) (ns : List Nv) (clk rm : Int) (w : World) (h : NRow w g o ns) (hr : ∀ n ∈ ns, Rds w n.dv n.nd.data) (hG : Glo B w E) (hB : B ≤ w.heap.size) (hps : ∀ n ∈ ns, n.path.length ≤ 400000) (hl : lenR ns = .ok) (hln : ns.length ≤ 1000) (hlo : ∀ n ∈ ns, long n = false) (hcap : ns.length ≤ cap) (ho : okTree clk rm) :
  Calls Tryz.prog 21 #[.agg #[.slice (some ⟨g, o, none⟩) ns.length cap, .int .i64 clk, .int .i64 rm]] w fun r w' => PlAt E clk rm w r w' (newR ns clk rm) := by
 have hb0 : Below w.heap.size w (w.alloc (.cells #[.slice (some ⟨g, o, none⟩) ns.length cap, .int .i64 clk, .int .i64 rm] 24)) := (Below.refl _ _).alloc (Nat.le_refl _) _
 have q := lengths_any E (.slice (some ⟨g, o, none⟩) ns.length cap) ns clk rm _ (Nodes.below (.inr ⟨g, o, cap, rfl, hcap, h, hr⟩) hb0)
 have hbk := alloc_new w (.cells #[.slice (some ⟨g, o, none⟩) ns.length cap, .int .i64 clk, .int .i64 rm] 24)
 rw [hl] at q
 have ho' := ho
 unfold okTree at ho'
 obtain ⟨h1, h2, h3, h4⟩ := ho'
 have n1 : ¬ clk < 0 := by omega
 have n2 : ¬ 1099511627776 < clk := by omega
 have n3 : ¬ rm < 0 := by omega
 have n4 : ¬ 1048576 < rm := by omega
 have hmm := fun (w : World) => run_mk66 (ns.length : Nat) w
 go_enter Tryz.func21, Tryz.ntmps21
 go_wp2_with fail
 refine q.mono ?_
 rintro r w1 ⟨⟨v, rfl, rfl⟩, hb1⟩
 have hbk1 := (hb1.block w.heap.size (by simp)).trans hbk
 have hPl : PlC w.heap.size (.slice (some ⟨g, o, none⟩) ns.length cap) clk rm w1 := ⟨by rw [Lib.cell_of_heap hbk1]; rfl, by rw [Lib.cell_of_heap hbk1]; rfl, by rw [Lib.cell_of_heap hbk1]; rfl⟩
 have hs1 : w.heap.size < w1.heap.size := by have := hb1.size; simp at this; omega
 have hB1 := hb0.trans (hb1.mono hb0.size)
 have d0 := hPl.c0
 have d1 := hPl.c1
 have d2 := hPl.c2
 have hPld : PlC w.heap.size (.slice (some ⟨g, o, none⟩) ns.length cap) clk rm w1.drew := ⟨hPl.c0, hPl.c1, hPl.c2⟩
 clear hbk1 hbk q hb0 hb1
 go_wp2
 refine wp_region_class (C := PlC w.heap.size (.slice (some ⟨g, o, none⟩) ns.length cap) clk rm) (by kernel_rfl) ?_
 (refine wpAnyC_take (i := 0) (v := ?_) hPld rfl (by kernel_rfl) (by kernel_rfl) (by kernel_rfl) (fun _ _ _ h => h) (Or.inl ⟨by kernel_rfl, ?_⟩) ?_; rotate_left; (intro w hc; have k0 := hc.c0; have k1 := hc.c1; have k2 := hc.c2; clear hc; go_simp; try with_reducible rfl))
 (refine wpAnyC_take (i := 1) (v := ?_) hPld rfl (by kernel_rfl) (by kernel_rfl) (by kernel_rfl) (fun _ _ _ h => h) (Or.inl ⟨by kernel_rfl, ?_⟩) ?_; rotate_left; (intro w hc; have k0 := hc.c0; have k1 := hc.c1; have k2 := hc.c2; clear hc; go_simp; try with_reducible rfl))
 (refine wpAnyC_take (i := 2) (v := ?_) hPld rfl (by kernel_rfl) (by kernel_rfl) (by kernel_rfl) (fun _ _ _ h => h) (Or.inl ⟨by kernel_rfl, ?_⟩) ?_; rotate_left; (intro w hc; have k0 := hc.c0; have k1 := hc.c1; have k2 := hc.c2; clear hc; go_simp; try with_reducible rfl))
 (refine wpAnyC_take (i := 4) (v := ?_) hPld rfl (by kernel_rfl) (by kernel_rfl) (by kernel_rfl) (fun _ _ _ h => h) (Or.inl ⟨by kernel_rfl, ?_⟩) ?_; rotate_left; (intro w hc; have k0 := hc.c0; have k1 := hc.c1; have k2 := hc.c2; clear hc; go_simp; try with_reducible rfl))
 (refine wpAnyC_take (i := 5) (v := ?_) hPld rfl (by kernel_rfl) (by kernel_rfl) (by kernel_rfl) (fun _ _ _ h => h) (Or.inl ⟨by kernel_rfl, ?_⟩) ?_; rotate_left; (intro w hc; have k0 := hc.c0; have k1 := hc.c1; have k2 := hc.c2; clear hc; go_simp; try with_reducible rfl))
 (refine wpAnyC_take (i := 6) (v := ?_) hPld rfl (by kernel_rfl) (by kernel_rfl) (by kernel_rfl) (fun _ _ _ h => h) (Or.inl ⟨by kernel_rfl, ?_⟩) ?_; rotate_left; (intro w hc; have k0 := hc.c0; have k1 := hc.c1; have k2 := hc.c2; clear hc; go_simp; try with_reducible rfl))
 (refine wpAnyC_take (i := 7) (v := ?_) hPld rfl (by kernel_rfl) (by kernel_rfl) (by kernel_rfl) (fun _ _ _ h => h) (Or.inl ⟨by kernel_rfl, ?_⟩) ?_; rotate_left; (intro w hc; have k0 := hc.c0; have k1 := hc.c1; have k2 := hc.c2; clear hc; go_simp; try with_reducible rfl))
 have hPl2' := hPl.below ((Below.refl _ _).alloc (Nat.le_refl _) (.map #[] 0)) hs1
 have hPl2 : PlC w.heap.size (.slice (some ⟨g, o, none⟩) ns.length cap) clk rm (w1.alloc (.map #[] 0)).drew := ⟨hPl2'.c0, hPl2'.c1, hPl2'.c2⟩
 have hPl3' := hPl2'.below ((Below.refl _ _).alloc (Nat.le_refl _) (.cells #[.map (some w1.heap.size), .int .i64 0, .int .i64 clk, .int .i64 rm] 94)) (by simp; omega)
 have hPl3 : PlC w.heap.size (.slice (some ⟨g, o, none⟩) ns.length cap) clk rm ((w1.alloc (.map #[] 0)).alloc (.cells #[.map (some w1.heap.size), .int .i64 0, .int .i64 clk, .int .i64 rm] 94)).drew := ⟨hPl3'.c0, hPl3'.c1, hPl3'.c2⟩
 refine wpAnyC_one (i := 3) (by kernel_rfl) (wpOp_wanted rfl (by rfl) ?_)
 go_simp
 refine wpAnyC_one (i := 8) (by kernel_rfl) (wpOp_wanted rfl (by rfl) ?_)
 go_simp
 refine wpAnyC_one (i := 9) (by kernel_rfl) (wpOp_wanted rfl (by rfl) ?_)
 go_simp
 refine wpAnyC_one (i := 10) (by kernel_rfl) (wpOp_wanted rfl (by rfl) ?_)
 go_simp
 refine wpAnyC_done (by kernel_rfl) ?_ _
 have hfs := fs_new w1 clk rm
 have hB2 : Below w.heap.size w ((w1.alloc (.map #[] 0)).alloc (.cells #[.map (some w1.heap.size), .int .i64 0, .int .i64 clk, .int .i64 rm] 94)).drew := ((hB1.alloc hB1.size _).alloc (by simp; omega) _).drew
 obtain ⟨W, hW⟩ : ∃ W, W = ((w1.alloc (.map #[] 0)).alloc (.cells #[.map (some w1.heap.size), .int .i64 0, .int .i64 clk, .int .i64 rm] 94)).drew := ⟨_, rfl⟩
 have hfsW : FsAt W (w1.heap.size + 1) w1.heap.size [] (weight []) clk rm := by rw [hW]; exact ⟨hfs.fb, hfs.mp, hfs.nodes, hfs.rds, hfs.srt, hfs.keys⟩
 have hszW : W.heap.size = w1.heap.size + 2 := by rw [hW]; show ((w1.alloc _).alloc _).heap.size = _; simp
 have e0 := hPl3.c0
 have e1 := hPl3.c1
 have e2 := hPl3.c2
 rw [← hW] at hB2 e0 e1 e2 ⊢
 clear hfs hPl2 hPl2' hPl3' hPl3 hPl hPld hW hmm d0 d1 d2
 go_wp2
 go_loopw [6, 49] (fun a i wr => ∃ (k : Nat) (ah : Bs) (L : Ents), k ≤ ns.length ∧ a = .string (mk ah) ∧ i = .int .i64 k ∧ plantR clk (ns.take k) = some (ah, nds L) ∧ FsAt wr (w1.heap.size + 1) w1.heap.size L (weight (nds L)) clk rm ∧
   (∀ e ∈ L, e.2.nd.data ≠ [] → ∀ g, e.2.dv.ownBlock = some g → g < w.heap.size) ∧ L.length ≤ k ∧ (∀ e ∈ L, e.2.nd.data.length ≤ 65536) ∧ weight (nds L) ≤ k * 65537 ∧ Below w.heap.size w wr) (fun _ i _ => ns.length - (intOf i).toNat)
 case atStart => exact ⟨0, [], [], by omega, rfl, rfl, rfl, hfsW, fun e he => (by cases he), Nat.le_refl _, fun e he => (by cases he), Nat.le_refl _, hB2⟩
 case round =>
  obtain ⟨k, ah, L, hk, rfl, rfl, hpl, hF, hdl, hLk, hds, hwt, hBr⟩ := hrel
  clear e0 e1 e2 hB2 hfsW hszW
  by_cases hkl : k < ns.length
  ·obtain ⟨n, hn⟩ : ∃ n, ns[k]? = some n := ⟨_, List.getElem?_eq_getElem hkl⟩
   have hR := h.below hBr
   have d0 := hR.c0 k n hn
   have d1 := hR.c1 k n hn
   have d2 := hR.c2 k n hn
   have d3 := hR.c3 k n hn
   have hnm : n ∈ ns := List.mem_of_getElem? hn
   obtain ⟨da, dc, hdv⟩ := (hr n hnm).len
   have hrd : Rds wr n.dv n.nd.data := (hr n hnm).below hBr
   have hst := plant_take (clk := clk) hn
   rw [hpl] at hst
   simp only [stepP] at hst
   rw [hdv] at d3
   have k2 : (k : Int) < ns.length := by omega
   have hb2 : Below wr.heap.size wr (wr.alloc (.cells #[.string (mk n.path), .bool n.nd.dir, .int .i64 n.nd.time, .slice da n.nd.data.length dc] 60)) := (Below.refl _ _).alloc (Nat.le_refl _) _
   have hF2 := hF.below hb2
   have hB2 := hBr.trans (hb2.mono hBr.size)
   have hbk2 := alloc_new wr (.cells #[.string (mk n.path), .bool n.nd.dir, .int .i64 n.nd.time, .slice da n.nd.data.length dc] 60)
   cases hbf : bytesBefore ah n.path with
   | false =>
    rw [hbf] at hst
    simp only [Bool.false_and, Bool.false_eq_true, if_false] at hst
    have hnew := newR_none hl ho (plant_none hst)
    have f0 : (wr.alloc (.cells #[.string (mk n.path), .bool n.nd.dir, .int .i64 n.nd.time, .slice da n.nd.data.length dc] 60)).cell? ⟨wr.heap.size, 0, none⟩ = some (.string (mk n.path)) := by rw [Lib.cell_of_heap hbk2]; rfl
    rcases leq_no' hbf with l1 | ⟨l1, l2⟩
    ·go_wp2
     go_region
     go_wp2
     go_ret2
     rw [hnew]
     have q := plAt_err (E := E) (clk := clk) (rm := rm) hB2 1 (mk n.path)
     simp only [size_alloc'] at q
     exact q
    ·go_wp2
     go_region
     go_wp2
     go_ret2
     rw [hnew]
     have q := plAt_err (E := E) (clk := clk) (rm := rm) hB2 1 (mk n.path)
     simp only [size_alloc'] at q
     rw [l2] at q
     exact q
   | true =>
    obtain ⟨l1, l2⟩ := leq_yes' hbf
    have q := fits_any B (w1.heap.size + 1) w1.heap.size E L (weight (nds L)) clk rm n _ hF2 (hG.keep (hB2.mono hB)) (Nat.le_trans hB hB2.size) (hps n hnm) ⟨da, dc, hdv⟩
    rw [hdv] at q
    cases hfit : fitB L clk n with
    | false =>
     rw [hfit] at q
     go_wp2_with fail
     refine q.mono ?_
     rintro r w3 ⟨rfl, hb3⟩
     have hB3 := hB2.trans (hb3.mono hB2.size)
     have hbk3 := (hb3.block wr.heap.size (by simp)).trans hbk2
     have hF3 := hF2.below hb3
     have hrd3 := (hrd.below hb2).below hb3
     rw [hdv] at hrd3
     rw [hbf, fitN_nds] at hst
     have f0 : w3.cell? ⟨wr.heap.size, 0, none⟩ = some (.string (mk n.path)) := by rw [Lib.cell_of_heap hbk3]; rfl
     have f1 : w3.cell? ⟨wr.heap.size, 1, none⟩ = some (.bool n.nd.dir) := by rw [Lib.cell_of_heap hbk3]; rfl
     have f2 : w3.cell? ⟨wr.heap.size, 2, none⟩ = some (.int .i64 n.nd.time) := by rw [Lib.cell_of_heap hbk3]; rfl
     have f3 : w3.cell? ⟨wr.heap.size, 3, none⟩ = some (.slice da n.nd.data.length dc) := by rw [Lib.cell_of_heap hbk3]; rfl
     have hwr3 : wr.heap.size < w3.heap.size := by have := hb3.size; simp at this; omega
     clear q d0 d1 d2 d3 hbk2 hR
     rw [hfit] at hst
     simp only [Bool.true_and, Bool.false_eq_true, if_false] at hst
     have hnew := newR_none hl ho (plant_none hst)
     go_wp2
     go_region
     go_wp2
     go_ret2
     rw [hnew]
     exact plAt_err (E := E) (clk := clk) (rm := rm) hB3 1 (mk n.path)
    | true =>
     rw [hfit] at q
     go_wp2_with fail
     refine q.mono ?_
     rintro r w3 ⟨rfl, hb3⟩
     have hB3 := hB2.trans (hb3.mono hB2.size)
     have hbk3 := (hb3.block wr.heap.size (by simp)).trans hbk2
     have hF3 := hF2.below hb3
     have hrd3 := (hrd.below hb2).below hb3
     rw [hdv] at hrd3
     rw [hbf, fitN_nds] at hst
     have f0 : w3.cell? ⟨wr.heap.size, 0, none⟩ = some (.string (mk n.path)) := by rw [Lib.cell_of_heap hbk3]; rfl
     have f1 : w3.cell? ⟨wr.heap.size, 1, none⟩ = some (.bool n.nd.dir) := by rw [Lib.cell_of_heap hbk3]; rfl
     have f2 : w3.cell? ⟨wr.heap.size, 2, none⟩ = some (.int .i64 n.nd.time) := by rw [Lib.cell_of_heap hbk3]; rfl
     have f3 : w3.cell? ⟨wr.heap.size, 3, none⟩ = some (.slice da n.nd.data.length dc) := by rw [Lib.cell_of_heap hbk3]; rfl
     have hwr3 : wr.heap.size < w3.heap.size := by have := hb3.size; simp at this; omega
     clear q d0 d1 d2 d3 hbk2 hR
     obtain ⟨hva, hf1⟩ := fit_valid hfit
     have hln1 := long_len (hlo n hnm) hf1
     have hpn := valid_len hva
     rw [hfit] at hst
     simp only [Bool.true_and, if_true] at hst
     have hb4 : Below w3.heap.size w3 (w3.alloc (.cells #[.bool n.nd.dir, .int .i64 n.nd.time, .slice da n.nd.data.length dc] 99)) := (Below.refl _ _).alloc (Nat.le_refl _) _
     have hB4 := hB3.trans (hb4.mono hB3.size)
     have hF4 := hF3.below hb4
     have hn4 : NodeAt (w3.alloc (.cells #[.bool n.nd.dir, .int .i64 n.nd.time, .slice da n.nd.data.length dc] 99)) ⟨w3.heap.size, .slice da n.nd.data.length dc, n.nd⟩ := alloc_new _ _
     have hrd4 := hrd3.below hb4
     have hwt4 : weight (nds L) ≤ 65537000 := by have : k * 65537 ≤ 1000 * 65537 := Nat.mul_le_mul_right _ (by omega); omega
     have q := set_any (w1.heap.size + 1) w1.heap.size L (weight (nds L)) clk rm n.path ⟨w3.heap.size, .slice da n.nd.data.length dc, n.nd⟩ _ hF4 hpn (by omega) (by omega) (fun e he => Nat.le_trans (hds e he) (by omega)) hn4 hrd4 (by show n.nd.data.length ≤ _; omega) (by omega)
     have hwe := weight_put hF.srt n.path ⟨w3.heap.size, .slice da n.nd.data.length dc, n.nd⟩
     rw [← hwe] at q
     go_wp2_with fail
     ·exact absurd (beq_iff_eq.1 ‹(n.path == ah) = true›) l2
     refine q.mono ?_
     rintro r w5 ⟨rfl, hfb5, hmp5, ht5⟩
     have hAlt := hF.fb.lt
     have hMlt := hF.mp.lt
     have f5 : w5.cell? ⟨wr.heap.size, 0, none⟩ = some (.string (mk n.path)) := by
      have : w5.heap[wr.heap.size]? = _ := (ht5.block wr.heap.size (by simp; omega) (fun s => by rcases s with e | e <;> omega)).trans ((hb4.block _ hwr3).trans hbk3)
      rw [Lib.cell_of_heap this]; rfl
     have hB5 : Below w.heap.size w w5 := hB4.trans (ht5.below hB4.size (fun i hi => by rcases hi with e | e <;> omega))
     have hF5 := fs_lay hF4 (fun x hx hne g hg => by have := hdl x hx hne g hg; omega) hn4 hrd4 (fun hne g hg => by have := rds_lt (hr n hnm) hne g (by rw [hdv]; exact hg); omega) hpn hfb5 hmp5 ht5
     have hwl := wt_put_le hF.srt n.path ⟨w3.heap.size, .slice da n.nd.data.length dc, n.nd⟩
     have hwn : n.nd.wt ≤ 65537 := by unfold Nd.wt; omega
     go_wp2
     refine ⟨⟨k + 1, n.path, put L n.path ⟨w3.heap.size, .slice da n.nd.data.length dc, n.nd⟩, by omega, rfl, by simp, by rw [hst, nds_put], hF5, fun e he hne g hg => ?_, ?_, fun e he => ?_, ?_, hB5⟩, by simp [intOf]; omega⟩
     ·rcases mem_put.1 he with rfl | ⟨he, _⟩
      ·exact rds_lt (hr n hnm) hne g (by rw [hdv]; exact hg)
      ·exact hdl e he hne g hg
     ·rw [put_length]
      have := del_length_le L n.path
      omega
     ·rcases mem_put.1 he with rfl | ⟨he, _⟩
      ·exact hln1
      ·exact hds e he
     ·have e1 : (k + 1) * 65537 = k * 65537 + 65537 := by omega
      omega
  ·obtain rfl : k = ns.length := by omega
   rw [List.take_length] at hpl
   have hnew := newR_some hl ho hpl
   have f1 := hF.fb.c1
   have f3 := hF.fb.c3
   go_wp2
   go_region
   by_cases hwr : rm < (weight (nds L) : Int)
   ·rw [if_pos hwr] at hnew
    go_wp2
    go_ret2
    rw [hnew]
    exact plAt_err' (E := E) (clk := clk) (rm := rm) hBr.drew 15 _
   ·rw [if_neg hwr] at hnew
    have q := Twin_any (w1.heap.size + 1) w1.heap.size L (weight (nds L)) clk rm wr.drew ⟨hF.fb, hF.mp, hF.nodes, hF.rds, hF.srt, hF.keys⟩ (by omega) (fun e he => Nat.le_trans (hds e he) (by omega))
    go_wp2_with fail
    refine q.mono ?_
    rintro r w5 ⟨G, M', L', rfl, hf5, ho5, hn5, hb5⟩
    go_wp2
    go_ret2
    rw [hnew]
    exact plAt_ok hBr.drew hb5 hf5 ho5 hn5 (by omega) (by omega) (by omega) (by omega)
theorem lenR_ok {ns : List Nv} (h : lenR ns = .ok) : ns.length ≤ 1000 ∧ ∀ n ∈ ns, long n = false := by
 unfold lenR at h
 split at h
 ·cases h
 ·rename_i hn
  refine ⟨Nat.le_of_not_lt fun q => hn (.inl q), fun n hm => ?_⟩
  cases hl : long n with
  | false => rfl
  | true => exact absurd (.inr (List.any_eq_true.2 ⟨n, hm, hl⟩)) hn
theorem lenR_no {ns : List Nv} (h : lenR ns ≠ .ok) : lenR ns = .no 2 := by
 unfold lenR at h ⊢
 split
 ·rfl
 ·rename_i hn; rw [if_neg hn] at h; exact absurd rfl h
end Go.Proofs.YtabmnkddmdffkaaGreatDoor
namespace Go.Proofs.YtabmnkddmdffkaaGreatDoor
open Go.RowKit Go.Maps
set_option maxRecDepth 100000 in
set_option maxHeartbeats 4000000 in
theorem planted_nil (E : Addr) (sa : Option Addr) (sc : Nat) (clk rm : Int) (w : World) (ho : okTree clk rm) :
  Calls Tryz.prog 21 #[.agg #[.slice sa 0 sc, .int .i64 clk, .int .i64 rm]] w fun r w' => PlAt E clk rm w r w' (newR [] clk rm) := by
 have hb0 : Below w.heap.size w (w.alloc (.cells #[.slice sa 0 sc, .int .i64 clk, .int .i64 rm] 24)) := (Below.refl _ _).alloc (Nat.le_refl _) _
 have q := lengths_any E (.slice sa 0 sc) [] clk rm (w.alloc (.cells #[.slice sa 0 sc, .int .i64 clk, .int .i64 rm] 24)) (.inl ⟨⟨_, _, rfl⟩, rfl⟩)
 have hl : lenR [] = .ok := rfl
 have hbk := alloc_new w (.cells #[.slice sa 0 sc, .int .i64 clk, .int .i64 rm] 24)
 rw [hl] at q
 have ho' := ho
 unfold okTree at ho'
 obtain ⟨h1, h2, h3, h4⟩ := ho'
 have n1 : ¬ clk < 0 := by omega
 have n2 : ¬ 1099511627776 < clk := by omega
 have n3 : ¬ rm < 0 := by omega
 have n4 : ¬ 1048576 < rm := by omega
 have hmm := fun (w : World) => run_mk66 0 w
 go_enter Tryz.func21, Tryz.ntmps21
 go_wp2_with fail
 refine q.mono ?_
 rintro r w1 ⟨⟨v, rfl, rfl⟩, hb1⟩
 have hbk1 := (hb1.block w.heap.size (by simp)).trans hbk
 have hPl : PlC w.heap.size (.slice sa 0 sc) clk rm w1 := ⟨by rw [Lib.cell_of_heap hbk1]; rfl, by rw [Lib.cell_of_heap hbk1]; rfl, by rw [Lib.cell_of_heap hbk1]; rfl⟩
 have hs1 : w.heap.size < w1.heap.size := by have := hb1.size; simp at this; omega
 have hB1 := hb0.trans (hb1.mono hb0.size)
 have d0 := hPl.c0
 have d1 := hPl.c1
 have d2 := hPl.c2
 have hPld : PlC w.heap.size (.slice sa 0 sc) clk rm w1.drew := ⟨hPl.c0, hPl.c1, hPl.c2⟩
 clear hbk1 hbk q hb0 hb1
 go_wp2
 refine wp_region_class (C := PlC w.heap.size (.slice sa 0 sc) clk rm) (by kernel_rfl) ?_
 (refine wpAnyC_take (i := 0) (v := ?_) hPld rfl (by kernel_rfl) (by kernel_rfl) (by kernel_rfl) (fun _ _ _ h => h) (Or.inl ⟨by kernel_rfl, ?_⟩) ?_; rotate_left; (intro w hc; have k0 := hc.c0; have k1 := hc.c1; have k2 := hc.c2; clear hc; go_simp; try with_reducible rfl))
 (refine wpAnyC_take (i := 1) (v := ?_) hPld rfl (by kernel_rfl) (by kernel_rfl) (by kernel_rfl) (fun _ _ _ h => h) (Or.inl ⟨by kernel_rfl, ?_⟩) ?_; rotate_left; (intro w hc; have k0 := hc.c0; have k1 := hc.c1; have k2 := hc.c2; clear hc; go_simp; try with_reducible rfl))
 (refine wpAnyC_take (i := 2) (v := ?_) hPld rfl (by kernel_rfl) (by kernel_rfl) (by kernel_rfl) (fun _ _ _ h => h) (Or.inl ⟨by kernel_rfl, ?_⟩) ?_; rotate_left; (intro w hc; have k0 := hc.c0; have k1 := hc.c1; have k2 := hc.c2; clear hc; go_simp; try with_reducible rfl))
 (refine wpAnyC_take (i := 4) (v := ?_) hPld rfl (by kernel_rfl) (by kernel_rfl) (by kernel_rfl) (fun _ _ _ h => h) (Or.inl ⟨by kernel_rfl, ?_⟩) ?_; rotate_left; (intro w hc; have k0 := hc.c0; have k1 := hc.c1; have k2 := hc.c2; clear hc; go_simp; try with_reducible rfl))
 (refine wpAnyC_take (i := 5) (v := ?_) hPld rfl (by kernel_rfl) (by kernel_rfl) (by kernel_rfl) (fun _ _ _ h => h) (Or.inl ⟨by kernel_rfl, ?_⟩) ?_; rotate_left; (intro w hc; have k0 := hc.c0; have k1 := hc.c1; have k2 := hc.c2; clear hc; go_simp; try with_reducible rfl))
 (refine wpAnyC_take (i := 6) (v := ?_) hPld rfl (by kernel_rfl) (by kernel_rfl) (by kernel_rfl) (fun _ _ _ h => h) (Or.inl ⟨by kernel_rfl, ?_⟩) ?_; rotate_left; (intro w hc; have k0 := hc.c0; have k1 := hc.c1; have k2 := hc.c2; clear hc; go_simp; try with_reducible rfl))
 (refine wpAnyC_take (i := 7) (v := ?_) hPld rfl (by kernel_rfl) (by kernel_rfl) (by kernel_rfl) (fun _ _ _ h => h) (Or.inl ⟨by kernel_rfl, ?_⟩) ?_; rotate_left; (intro w hc; have k0 := hc.c0; have k1 := hc.c1; have k2 := hc.c2; clear hc; go_simp; try with_reducible rfl))
 have hPl2' := hPl.below ((Below.refl _ _).alloc (Nat.le_refl _) (.map #[] 0)) hs1
 have hPl2 : PlC w.heap.size (.slice sa 0 sc) clk rm (w1.alloc (.map #[] 0)).drew := ⟨hPl2'.c0, hPl2'.c1, hPl2'.c2⟩
 have hPl3' := hPl2'.below ((Below.refl _ _).alloc (Nat.le_refl _) (.cells #[.map (some w1.heap.size), .int .i64 0, .int .i64 clk, .int .i64 rm] 94)) (by simp; omega)
 have hPl3 : PlC w.heap.size (.slice sa 0 sc) clk rm ((w1.alloc (.map #[] 0)).alloc (.cells #[.map (some w1.heap.size), .int .i64 0, .int .i64 clk, .int .i64 rm] 94)).drew := ⟨hPl3'.c0, hPl3'.c1, hPl3'.c2⟩
 refine wpAnyC_one (i := 3) (by kernel_rfl) (wpOp_wanted rfl (by rfl) ?_)
 go_simp
 refine wpAnyC_one (i := 8) (by kernel_rfl) (wpOp_wanted rfl (by rfl) ?_)
 go_simp
 refine wpAnyC_one (i := 9) (by kernel_rfl) (wpOp_wanted rfl (by rfl) ?_)
 go_simp
 refine wpAnyC_one (i := 10) (by kernel_rfl) (wpOp_wanted rfl (by rfl) ?_)
 go_simp
 refine wpAnyC_done (by kernel_rfl) ?_ _
 have hfs := fs_new w1 clk rm
 have hB2 : Below w.heap.size w ((w1.alloc (.map #[] 0)).alloc (.cells #[.map (some w1.heap.size), .int .i64 0, .int .i64 clk, .int .i64 rm] 94)).drew := ((hB1.alloc hB1.size _).alloc (by simp; omega) _).drew
 obtain ⟨W, hW⟩ : ∃ W, W = ((w1.alloc (.map #[] 0)).alloc (.cells #[.map (some w1.heap.size), .int .i64 0, .int .i64 clk, .int .i64 rm] 94)).drew := ⟨_, rfl⟩
 have hfsW : FsAt W (w1.heap.size + 1) w1.heap.size [] (weight []) clk rm := by rw [hW]; exact ⟨hfs.fb, hfs.mp, hfs.nodes, hfs.rds, hfs.srt, hfs.keys⟩
 have hszW : W.heap.size = w1.heap.size + 2 := by rw [hW]; show ((w1.alloc _).alloc _).heap.size = _; simp
 have e0 := hPl3.c0
 have e1 := hPl3.c1
 have e2 := hPl3.c2
 rw [← hW] at hB2 e0 e1 e2 ⊢
 clear hfs hPl2 hPl2' hPl3' hPl3 hPl hPld hW hmm d0 d1 d2
 go_wp2
 go_loopw [6, 49] (fun a i wr => a = .string (mk []) ∧ i = .int .i64 0 ∧ wr = W) (fun _ _ _ => 0)
 case atStart => exact ⟨rfl, rfl, rfl⟩
 case round =>
  obtain ⟨rfl, rfl, rfl⟩ := hrel
  have hnew := newR_some hl ho (ns := []) (T := []) (ah := []) rfl
  have f1 := hfsW.fb.c1
  have f3 := hfsW.fb.c3
  go_wp2
  go_region
  have hwr : ¬ rm < ((weight [] : Nat) : Int) := by show ¬ rm < 0; omega
  rw [if_neg hwr] at hnew
  have q := Twin_any (w1.heap.size + 1) w1.heap.size [] (weight []) clk rm wr.drew ⟨hfsW.fb, hfsW.mp, hfsW.nodes, hfsW.rds, hfsW.srt, hfsW.keys⟩ (by simp) (fun e he => by cases he)
  go_wp2_with fail
  refine q.mono ?_
  rintro r w5 ⟨G, M', L', rfl, hf5, ho5, hn5, hb5⟩
  go_wp2
  go_ret2
  rw [hnew]
  exact plAt_ok (L := []) hB2.drew hb5 hf5 ho5 hn5 (by show (0 : Int) ≤ rm; omega) h4 h1 (by simp)
theorem planted_any (B : Nat) (E : Addr) (v : Value) (ns : List Nv) (clk rm : Int) (w : World) (h : Nodes w v ns) (hG : Glo B w E) (hB : B ≤ w.heap.size) (hps : ∀ n ∈ ns, n.path.length ≤ 400000) :
  Calls Tryz.prog 21 #[.agg #[v, .int .i64 clk, .int .i64 rm]] w fun r w' => PlAt E clk rm w r w' (newR ns clk rm) := by
 cases hl : lenR ns with
 | no k =>
  have e := lenR_no (ns := ns) (by rw [hl]; simp)
  have hn : newR ns clk rm = .inl (.no 2) := by unfold newR; rw [e]
  rw [hn]
  exact planted_len E v ns clk rm w h e
 | nothing => have e := lenR_no (ns := ns) (by rw [hl]; simp); rw [hl] at e; cases e
 | ok =>
  by_cases ho : okTree clk rm
  ·obtain ⟨h1, h2⟩ := lenR_ok hl
   rcases h with ⟨⟨sa, sc, rfl⟩, rfl⟩ | ⟨g, o, cap, rfl, h3, h4, h5⟩
   ·exact planted_nil E sa sc clk rm w ho
   ·exact planted_row B E g o cap ns clk rm w h4 h5 hG hB hps hl h1 h2 h3 ho
  ·have hn : newR ns clk rm = .inl (.no 1) := by unfold newR; rw [hl]; simp only [if_neg ho]
   rw [hn]
   exact planted_arg E v ns clk rm w h hl ho
def NewAt (clk rm : Int) (w : World) (r : Ending) (w' : World) (o : Er ⊕ Tr) : Prop :=
 Below w.heap.size w w' ∧ match o with
 | .inl k => r = .returned (.tuple #[.pointer none, .int .i64 (k.num : Nat)])
 | .inr T => ∃ G, r = .returned (.tuple #[.pointer (some ⟨G, 0, none⟩), .int .i64 0]) ∧ IsFs w' (fun i => w.heap.size ≤ i) G T clk rm
theorem IsFs.mono {w : World} {S S' : Nat → Prop} {A : Nat} {T : List (Bs × Nd)} {clk rm : Int} (h : IsFs w S A T clk rm) (hs : ∀ i, S i → S' i) : IsFs w S' A T clk rm := by
 obtain ⟨⟨M, L, h1, h2, h3⟩, a, b, c, d⟩ := h
 exact ⟨⟨M, L, h1, h2.mono hs, h3⟩, a, b, c, d⟩
set_option maxHeartbeats 1000000 in
theorem New_any (B : Nat) (E : Addr) (v : Value) (ns : List Nv) (clk rm : Int) (w : World) (h : Nodes w v ns) (hG : Glo B w E) (hB : B ≤ w.heap.size) (hps : ∀ n ∈ ns, n.path.length ≤ 400000) :
  Calls Tryz.prog 7 #[.agg #[v, .int .i64 clk, .int .i64 rm]] w fun r w' => NewAt clk rm w r w' (newR ns clk rm) := by
 have hb0 : Below w.heap.size w (w.alloc (.cells #[v, .int .i64 clk, .int .i64 rm] 24)) := (Below.refl _ _).alloc (Nat.le_refl _) _
 have q := planted_any B E v ns clk rm _ (h.below hb0) (hG.keep (hb0.mono hB)) (Nat.le_trans hB hb0.size) hps
 obtain ⟨a, cap, rfl⟩ := h.len
 generalize newR ns clk rm = o at q
 clear h hps
 generalize ns.length = n at *
 cases o with
 | inl k =>
  go_enter Tryz.func7, Tryz.ntmps7
  go_wp2_with fail
  refine q.mono ?_
  rintro r w1 ⟨hb1, v, rfl, hv, hk⟩
  have hB1 := hb0.trans (hb1.mono hb0.size)
  go_wp2_with fail
  refine (number_any B E v k w1 (hG.keep (hB1.mono hB)) hv).mono ?_
  rintro r w2 ⟨rfl, hb2⟩
  go_wp2
  go_ret2
  exact ⟨hB1.trans (hb2.mono hB1.size), rfl⟩
 | inr T =>
  go_enter Tryz.func7, Tryz.ntmps7
  go_wp2_with fail
  refine q.mono ?_
  rintro r w1 ⟨hb1, G, rfl, hf⟩
  have hB1 := hb0.trans (hb1.mono hb0.size)
  go_wp2_with fail
  refine (number_any B E .nilIface .ok w1 (hG.keep (hB1.mono hB)) rfl).mono ?_
  rintro r w2 ⟨rfl, hb2⟩
  go_wp2
  go_ret2
  exact ⟨hB1.trans (hb2.mono hB1.size), G, rfl, (hf.below hb2).mono fun i hi => Nat.le_trans hb0.size hi⟩
end Go.Proofs.YtabmnkddmdffkaaGreatDoor
