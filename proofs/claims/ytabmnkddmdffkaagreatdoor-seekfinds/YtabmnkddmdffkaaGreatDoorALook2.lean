import Derived.Test.YtabmnkddmdffkaaGreatDoorALookG
namespace Go.Proofs.YtabmnkddmdffkaaGreatDoor
open Go.RowKit Go.Shelf
attribute [local go_sem] Oper.semAt_some
def lkPtr (b0 : Nat) : Lk En → Value
 | .bad _ => .pointer none
 | .non => .pointer none
 | .rt => .pointer (some ⟨b0, 0, none⟩)
 | .is e => .pointer (some ⟨e.blk, 0, none⟩)
def lkOkay : Lk En → Prop
 | .bad _ => False
 | _ => True
def lk1 (w1 : World) (p : Bs) : World := ((w1.alloc (.cells #[.bool true, .int .i64 0, .slice none 0 0] 99)).alloc (.cells #[.pointer (some ⟨w1.heap.size, 0, none⟩)] 97)).alloc (.cells #[.string (mk p)] 9)
theorem lk1_size (w1 : World) (p : Bs) : (lk1 w1 p).heap.size = w1.heap.size + 3 := by simp [lk1]
theorem lk1_below (w1 : World) (p : Bs) : Below w1.heap.size w1 (lk1 w1 p) := (((Below.refl _ w1).alloc (Nat.le_refl _) _).alloc (by simp) _).alloc (by simp; omega) _
theorem lk1_root (w1 : World) (p : Bs) : NodeAt (lk1 w1 p) (rootAt w1.heap.size) :=
 ((Below.heap_alloc _ _ _ (by simp [rootAt]; omega)).trans (Below.heap_alloc _ _ _ (by simp [rootAt]))).trans (World.alloc_heap_new w1 _)
theorem lk1_n (w1 : World) (p : Bs) : Boxed (lk1 w1 p) (w1.heap.size + 1) 97 (.pointer (some ⟨w1.heap.size, 0, none⟩)) := by
 have := (Boxed.new (w1.alloc (.cells #[.bool true, .int .i64 0, .slice none 0 0] 99)) 97 (.pointer (some ⟨w1.heap.size, 0, none⟩))).alloc (.cells #[.string (mk p)] 9)
 rw [World.size_alloc] at this
 exact this
theorem lk1_p (w1 : World) (p : Bs) : Boxed (lk1 w1 p) (w1.heap.size + 1 + 1) 9 (.string (mk p)) := by
 have := Boxed.new ((w1.alloc (.cells #[.bool true, .int .i64 0, .slice none 0 0] 99)).alloc (.cells #[.pointer (some ⟨w1.heap.size, 0, none⟩)] 97)) 9 (.string (mk p))
 rw [World.size_alloc, World.size_alloc] at this
 exact this
theorem kf_box {A N b : Nat} {W W' : World} {t : TypeId} {v : Value} (h : Kf A N W W') (hb : Boxed W b t v) (h1 : b < N) (h2 : b ≠ A) : Boxed W' b t v := (h.2 b h1 h2).trans hb
def LkI (w W0 : World) (L : Ents) (p : Bs) (b0 : Nat) (pre : List (Pl p)) (W : World) : Prop :=
 Kf (b0 + 1) W0.heap.size W0 W ∧ Below w.heap.size w W ∧ Boxed W (b0 + 1) 97 (lkPtr b0 (lookE isDir L p (pls pre))) ∧ lkOkay (lookE isDir L p (pls pre))
def LkX (w : World) (L : Ents) (p : Bs) (Rn Re : Nat) (c : Code) (pre : List (Pl p)) (W : World) : Prop :=
 c = .ret ∧ Below w.heap.size w W ∧ ∃ n b, lookE isDir L p (pls pre) = .bad n ∧ Boxed W Rn 97 (.pointer none) ∧ Boxed W Re 62 (.iface 105 (.pointer (some ⟨b, 0, none⟩))) ∧ Flt W b n
theorem box_own {W W' : World} {b : Nat} {t : TypeId} {v : Value} {row : Option Nat} (h : Boxed W b t v) (hg : W.grownBy W' row) (hr : ∀ r, row = some r → ∃ o : Obj, W.heap[r]? = some o ∧ o.isCells = false) : Boxed W' b t v :=
 (hg.block b (lt_of_block h) (fun e => by
  obtain ⟨o, ho, hc⟩ := hr b e.symm
  unfold Boxed at h
  rw [h] at ho
  cases ho
  cases hc)).trans h
theorem flt_own {W W' : World} {b : Nat} {n : Int} {row : Option Nat} (h : Flt W b n) (hg : W.grownBy W' row) (hr : ∀ r, row = some r → ∃ o : Obj, W.heap[r]? = some o ∧ o.isCells = false) : Flt W' b n := by
 obtain ⟨p, h⟩ := h
 refine ⟨p, (hg.block b (lt_of_block h) (fun e => ?_)).trans h⟩
 obtain ⟨o, ho, hc⟩ := hr b e.symm
 rw [h] at ho
 cases ho
 cases hc
theorem lkI_own {w W0 : World} {L : Ents} {p : Bs} {b0 : Nat} (hw : w.heap.size ≤ W0.heap.size) : OwnFrom W0.heap.size (LkI w W0 L p b0) := by
 intro s W W' row hs hg hr
 obtain ⟨h1, h2, h3, h4⟩ := hs
 refine ⟨⟨Nat.le_trans h1.1 hg.size, fun k hk hA => (hg.block k (by have := h1.1; omega) (fun e => by have := (hr k e.symm).1; omega)).trans (h1.2 k hk hA)⟩, h2.grown hg h2.size (fun k e => by have := (hr k e).1; omega), box_own h3 hg (fun r e => (hr r e).2), h4⟩
theorem lkX_own {w : World} {L : Ents} {p : Bs} {Rn Re B : Nat} (hw : w.heap.size ≤ B) (c : Code) : OwnFrom B (LkX w L p Rn Re c) := by
 intro s W W' row hs hg hr
 obtain ⟨h1, h2, n, b, h3, h4, h5, h6⟩ := hs
 exact ⟨h1, h2.grown hg h2.size (fun k e => by have := (hr k e).1; omega), n, b, h3, box_own h4 hg (fun r e => (hr r e).2), box_own h5 hg (fun r e => (hr r e).2), flt_own h6 hg (fun r e => (hr r e).2)⟩
theorem fltW_other {W : World} {Rn Re k : Nat} (p : ByteArray) (x : Value) (hk : k < W.heap.size) (h1 : k ≠ Rn) (h2 : k ≠ Re) : (fltW W Rn Re p x).heap[k]? = W.heap[k]? :=
 (Below.heap_alloc _ _ _ (by simpa using hk)).trans ((Below.heap_setCell _ _ _ _ h2).trans (Below.heap_setCell _ _ _ _ h1))
def okW (W : World) (Rn Re : Nat) (v : Value) : World := (W.setCell ⟨Rn, 0, none⟩ v).setCell ⟨Re, 0, none⟩ .nilIface
theorem okW_n {W : World} {Rn Re : Nat} {v u : Value} (hn : Boxed W Rn 97 u) (hne : Rn ≠ Re) : Boxed (okW W Rn Re v) Rn 97 v := (Below.heap_setCell _ _ _ _ hne).trans (hn.set v)
theorem okW_e {W : World} {Rn Re : Nat} {v u : Value} (he : Boxed W Re 62 u) (hne : Rn ≠ Re) : Boxed (okW W Rn Re v) Re 62 .nilIface := by
 have h1 : Boxed (W.setCell ⟨Rn, 0, none⟩ v) Re 62 u := (Below.heap_setCell _ _ _ _ hne.symm).trans he
 exact h1.set _
theorem okW_other {W : World} {Rn Re k : Nat} (v : Value) (h1 : k ≠ Rn) (h2 : k ≠ Re) : (okW W Rn Re v).heap[k]? = W.heap[k]? := (Below.heap_setCell _ _ _ _ h2).trans (Below.heap_setCell _ _ _ _ h1)
theorem okW_below {B : Nat} {w W : World} {Rn Re : Nat} (v : Value) (h : Below B w W) (h1 : B ≤ Rn) (h2 : B ≤ Re) : Below B w (okW W Rn Re v) := (h.setCell (p := ⟨Rn, 0, none⟩) h1 _).setCell (p := ⟨Re, 0, none⟩) h2 _
theorem okW_size (W : World) (Rn Re : Nat) (v : Value) : (okW W Rn Re v).heap.size = W.heap.size := by simp [okW]
theorem fltW_keeps (W : World) (Rn Re : Nat) (p : ByteArray) (x : Value) : KeepsOthers W (fltW W Rn Re p x).drew :=
 (((KeepsOthers.setCell W ⟨Rn, 0, none⟩ (.pointer none)).trans (KeepsOthers.setCell _ ⟨Re, 0, none⟩ _)).trans (KeepsOthers.alloc _ _)).trans (KeepsOthers.drew _)
theorem flt_fin {w W W0 : World} {L : Ents} {p : Bs} {Rn Re n : Nat} {pre : List (Pl p)} {v u : Value} (hbn : Boxed W Rn 97 v) (hbe : Boxed W Re 62 u) (hne : Rn ≠ Re) (hB : Below w.heap.size w W) (h1 : w.heap.size ≤ Rn) (h2 : w.heap.size ≤ Re) (hl : lookE isDir L p (pls pre) = .bad n) :
  KeepsFrom W0.heap.size W (fltW W Rn Re (mk p) (.iface 31 (.int .i64 n))).drew ∧ LkX w L p Rn Re .ret pre (fltW W Rn Re (mk p) (.iface 31 (.int .i64 n))).drew :=
 ⟨(fltW_keeps W Rn Re (mk p) _).from _, rfl, (fltW_below _ _ hB h1 h2 hB.size).drew, n, W.heap.size, hl, fltW_n hbn hne, fltW_e hbe hne, _, fltW_f W Rn Re (mk p) _⟩
theorem lkOf_ptr (b0 : Nat) (o : Option En) : lkPtr b0 (lkOf o) = ptrOf (o.map En.blk) ∧ lkOkay (lkOf o) := by cases o <;> exact ⟨rfl, trivial⟩
theorem go_fin {w W W0 : World} {L : Ents} {p : Bs} {b0 : Nat} {pre : List (Pl p)} {x : Pl p} {v : Value} (hKf : Kf (b0 + 1) W0.heap.size W0 W) (hB : Below w.heap.size w W) (hbn : Boxed W (b0 + 1) 97 v) (h1 : w.heap.size ≤ b0 + 1) (hl : lookE isDir L p (pls (pre ++ [x])) = lkOf (fnd L (p.take x.1))) :
  KeepsFrom W0.heap.size W (W.setCell ⟨b0 + 1, 0, none⟩ (ptrOf ((fnd L (p.take x.1)).map En.blk))).drew ∧ Kf (b0 + 1) W0.heap.size W (W.setCell ⟨b0 + 1, 0, none⟩ (ptrOf ((fnd L (p.take x.1)).map En.blk))).drew ∧ LkI w W0 L p b0 (pre ++ [x]) (W.setCell ⟨b0 + 1, 0, none⟩ (ptrOf ((fnd L (p.take x.1)).map En.blk))).drew := by
 have hk : Kf (b0 + 1) W0.heap.size W (W.setCell ⟨b0 + 1, 0, none⟩ (ptrOf ((fnd L (p.take x.1)).map En.blk))).drew := ⟨Nat.le_of_eq (by simp), fun k _ hne => Below.heap_setCell _ _ _ _ hne⟩
 refine ⟨((KeepsOthers.setCell W _ _).trans (KeepsOthers.drew _)).from _, hk, hKf.t hk, (hB.setCell (p := ⟨b0 + 1, 0, none⟩) h1 _).drew, ?_, ?_⟩
 ·rw [hl, (lkOf_ptr b0 _).1]
  exact hbn.set _
 ·rw [hl]; exact (lkOf_ptr b0 _).2
theorem lookE_mem {L : Ents} {p : Bs} {l : List Nat} {e : En} (h : lookE isDir L p l = .is e) : ∃ k, (k, e) ∈ L := by
 rcases List.eq_nil_or_concat l with rfl | ⟨r, i, rfl⟩
 ·cases h
 ·rw [List.concat_eq_append, lookE_snoc] at h
  have key : ∀ st : Lk En, stp isDir L p st i = .is e → ∃ k, (k, e) ∈ L := by
   intro st hst
   have hl : ∀ o : Option En, o = fnd L (p.take i) → lkOf o = .is e → ∃ k, (k, e) ∈ L := by
    intro o ho hk
    cases o with
    | none => cases hk
    | some x =>
     simp only [lkOf, Lk.is.injEq] at hk
     subst hk
     exact ⟨_, fnd_mem ho.symm⟩
   cases st with
   | bad n => cases hst
   | non => cases hst
   | rt => exact hl _ rfl hst
   | is x =>
    simp only [stp] at hst
    split at hst
    ·exact hl _ rfl hst
    ·cases hst
  exact key _ h
theorem ptrOf_ptr (o : Option Nat) : ∃ a, ptrOf o = .pointer a := by cases o <;> exact ⟨_, rfl⟩
theorem lk_bad {L : Ents} {p : Bs} {pre : List Nat} {n : Nat} (h : pre <+: ends p) (hb : lookE isDir L p pre = .bad n) : lookP isDir L p = .bad n := by
 obtain ⟨r, hr⟩ := h
 unfold lookP lookE at *
 rw [← hr, List.foldl_append, hb]
 exact stp_bad _ _ _ _ _
set_option maxRecDepth 100000 in
set_option maxHeartbeats 2000000 in
theorem look_ok (B A M : Nat) (L : Ents) (wt clk rm : Int) (p : Bs) (w : World) (E : Addr) (h : FsAt w A M L wt clk rm) (hG : Glo B w E) (hB : B ≤ w.heap.size) (hp : p.length ≤ 1000) (hv : valid p = true) :
  Calls Tryz.prog 72 #[.pointer (some ⟨A, 0, none⟩), .string (mk p)] w fun r w' => LkRes w.heap.size w' r E (lookP isDir L p) ∧ Below w.heap.size w w' := by
 have q := fun w => valid_any (mk p) w (by rw [mk_size]; omega)
 simp only [tl_mk p, hv] at q
 refine (callsIn_wide (n := 5)).1 ?_
 refine callsIn_of_wp_marks Tryz.func72 rfl trivial ?_ rfl
 simp only [Tryz.ntmps72, List.size_toArray, List.length_cons, List.length_nil, Nat.reduceAdd, Nat.reduceSub, Array.replicate_succ, Array.replicate_zero, List.push_toArray, List.append_toArray, List.nil_append, List.cons_append]
 gi_wp2_with (first | (refine ⟨trivial, ?_⟩; gi_at_call 77; refine (callsIn_wide.2 (q _)).mono ?_; rintro e w1 ⟨rfl, hb1⟩; have hb1 : Below (lk0 w A p).heap.size (lk0 w A p) w1 := hb1; have cp := fun o o' => (((box_below (lk0_p w A p) hb1).alloc o).alloc o').cell) | (refine ⟨trivial, ?_⟩; gi_at_call 100; refine (callsIn_wide.2 (nameEnds_any p _)).mono ?_; rintro e w' ⟨rfl, rfl⟩))
 obtain ⟨W0, hW0⟩ : ∃ W0, W0 = lk1 w1 p := ⟨_, rfl⟩
 have hz1 := lk0_size w A p
 have hs1 : w.heap.size + 4 ≤ w1.heap.size := by have := hb1.size; omega
 have hz0 : W0.heap.size = w1.heap.size + 3 := by rw [hW0]; exact lk1_size w1 p
 have hB1 : Below w.heap.size w w1 := (lk0_below w A p).trans (hb1.mono (by omega))
 have hB10 : Below w1.heap.size w1 W0 := by rw [hW0]; exact lk1_below w1 p
 have hB0 : Below w.heap.size w W0 := hB1.trans (hB10.mono (by omega))
 have bf := box_below (box_below (lk0_f w A p) hb1) hB10
 have bp := box_below (box_below (lk0_p w A p) hb1) hB10
 have bn := box_below (box_below (lk0_n w A p) hb1) hB10
 have be := box_below (box_below (lk0_e w A p) hb1) hB10
 have bN : Boxed W0 (w1.heap.size + 1) 97 (.pointer (some ⟨w1.heap.size, 0, none⟩)) := by rw [hW0]; exact lk1_n w1 p
 have bP : Boxed W0 (w1.heap.size + 1 + 1) 9 (.string (mk p)) := by rw [hW0]; exact lk1_p w1 p
 have hR : NodeAt W0 (rootAt w1.heap.size) := by rw [hW0]; exact lk1_root w1 p
 change Code.wpIn _ _ _ _ _ _ (lk1 w1 p)
 rw [← hW0]
 have hmx : Tryz.prog.follows .mixedOrders = true := by kernel_rfl
 have hE : ∀ W', Kf (w1.heap.size + 1) W0.heap.size W0 W' → W'.cell? ⟨w1.heap.size + 1 + 1, 0, none⟩ = some (.string (mk p)) := fun W' h => (kf_box h bP (by omega) (by omega)).cell
 clear hb1 cp hW0 hB10 bP
 refine wpIn_rangeFunc_ownG rfl (by decide) (gf := 132) (lb := #[.pointer (some ⟨w1.heap.size + 1 + 1, 0, none⟩)]) rfl trivial (enters_of Tryz.func132 (by kernel_rfl) rfl)
  (ends_stops 4 (by decide) (w1.heap.size + 1) W0.heap.size (w1.heap.size + 1 + 1) p hp W0 (Nat.le_refl _) hE) (fun h k => Kf.t h k) (fun W l o o' hl _ _ _ => Kf.b W l o' hl) (Below.refl _ _) (fun _ => rfl)
  (LkI w W0 L p w1.heap.size) (LkX w L p (w.heap.size + 1 + 1) (w.heap.size + 1 + 1 + 1)) (lkI_own (by omega)) (lkX_own (by omega))
  ⟨Kf.refl _ _ _, hB0, bN, trivial⟩
  (fun x => { tmps := #[.pointer (some ⟨A, 0, none⟩), .string (mk p), .pointer (some ⟨w.heap.size, 0, none⟩), .pointer (some ⟨w.heap.size + 1, 0, none⟩), .pointer (some ⟨w.heap.size + 1 + 1, 0, none⟩), .pointer (some ⟨w.heap.size + 1 + 1 + 1, 0, none⟩), .pointer (some ⟨w1.heap.size + 1, 0, none⟩), .int .i64 x.1, .string (mk p), .bool true, .bool false, undef, undef, undef, undef, undef, .agg #[.bool true, .int .i64 0, .slice none 0 0], .pointer (some ⟨w1.heap.size, 0, none⟩), .string (mk p), .func (.func 132) #[] #[.pointer (some ⟨w1.heap.size + 1 + 1, 0, none⟩)], .int .i64 x.1, undef, undef, undef, undef, undef, undef, undef, undef, undef, undef, undef, undef, undef, undef, undef, undef, undef, undef, undef, undef, undef, undef, undef, undef, undef, undef, undef, undef, undef, undef, undef, undef, undef, undef, undef], defers := [] }) ?assign ?body ?done ?stop
 case assign =>
  intro l x W K hK
  gi_wp2
  exact hK
 case body =>
  rintro l pre x W ⟨hKf, hBW, hbn, hok⟩ hlt
  have bn2 := kf_box hKf bn (by omega) (by omega)
  have be2 := kf_box hKf be (by omega) (by omega)
  have bf2 := kf_box hKf bf (by omega) (by omega)
  have bp2 := kf_box hKf bp (by omega) (by omega)
  have hF := h.below hBW
  have cn := bn2.cell
  have ce := be2.cell
  have fn := bn2.frozen
  have fe := be2.frozen
  have cf := bf2.cell
  have cp := bp2.cell
  have ca := hF.fb.c0
  have hxl := x.2
  have hsn : lookE isDir L p (pls (pre ++ [x])) = stp isDir L p (lookE isDir L p (pls pre)) x.1 := by rw [← lookE_snoc]; simp [pls]
  cases hlk : lookE isDir L p (pls pre) with
  | bad n => rw [hlk] at hok; exact hok.elim
  | non =>
   rw [hlk] at hbn hsn
   have c0 := hbn.cell
   have eq0 := eq_nil_nil
   simp only [lkPtr] at c0
   have h2 : w.heap.size + 1 + 1 < W.heap.size := by have := hKf.1; omega
   have h3 : w.heap.size + 1 + 1 + 1 < W.heap.size := by have := hKf.1; omega
   have be3 : ∀ v, Boxed (W.setCell ⟨w.heap.size + 1 + 1, 0, none⟩ v) (w.heap.size + 1 + 1 + 1) 62 .nilIface := fun v => (Below.heap_setCell _ _ _ _ (by simp)).trans be2
   have ce2 := fun v => (be3 v).cell
   have fe2 := fun v => (be3 v).frozen
   have ce3 := fun v o => ((be3 v).alloc o).cell
   have fe3 := fun v o => ((be3 v).alloc o).frozen
   have hfin := flt_fin (W0 := W0) (pre := pre ++ [x]) bn2 be2 (by omega) hBW (by omega) (by omega) hsn
   clear be3 bn2 be2 bf2 bp2 hbn hF hKf hok hlk hsn hB0 bf bp bn be bN hR hmx hE hBW h hG hz1 hs1 hz0 hB1 q hb1
   gi_wp2
   gi_region
   all_goals gi_wp2
   all_goals exact hfin
  | rt =>
   rw [hlk] at hbn hsn
   have c0 := hbn.cell
   have f0 := hbn.frozen
   have eq0 := eq_ptr_nil w1.heap.size
   simp only [lkPtr] at c0
   have hrt : NodeAt W (rootAt w1.heap.size) := (hKf.2 w1.heap.size (by omega) (by omega)).trans hR
   have cr : W.cell? ⟨w1.heap.size, 0, none⟩ = some (.bool true) := hrt.c0
   have hlo := Mp.look (w := W.drew) hF.mp (p.take x.1) (by rw [List.length_take]; unfold maxLen; omega)
   have hex : (mk p).extract 0 x.1 = mk (p.take x.1) := by rw [ext_take, tl_mk p]
   have hfin := go_fin (pre := pre) hKf hBW hbn (by omega) hsn
   obtain ⟨o, ho⟩ := ptrOf_ptr ((fnd L (List.take x.1 p)).map En.blk)
   rw [ho] at hlo hfin
   clear ho
   obtain ⟨i, hi⟩ := x
   simp only at hlo hex hfin hxl
   clear hrt bn2 be2 bf2 bp2 hbn hF hKf hok hlk hsn hB0 bf bp bn be bN hR hmx hE hBW h hG hz1 hs1 hz0 hB1 q hb1
   gi_wp2
   gi_region
   all_goals gi_wp2
   all_goals exact hfin
  | is e =>
   rw [hlk] at hbn hsn
   have hmem : (∃ k, (k, e) ∈ L) := lookE_mem hlk
   obtain ⟨k, hmem⟩ := hmem
   have c0 := hbn.cell
   have f0 := hbn.frozen
   have eq0 := eq_ptr_nil e.blk
   simp only [lkPtr] at c0
   have cr := (hF.nodes _ hmem).c0
   simp only at cr
   cases hd : e.nd.dir with
   | true =>
    rw [hd] at cr
    simp only [stp, isDir, hd, if_true] at hsn
    have hlo := Mp.look (w := W.drew) hF.mp (p.take x.1) (by rw [List.length_take]; unfold maxLen; omega)
    have hfin := go_fin (pre := pre) hKf hBW hbn (by omega) hsn
    obtain ⟨o, ho⟩ := ptrOf_ptr ((fnd L (List.take x.1 p)).map En.blk)
    rw [ho] at hlo hfin
    clear ho
    have hex : (mk p).extract 0 x.1 = mk (p.take x.1) := by rw [ext_take, tl_mk p]
    obtain ⟨i, hi⟩ := x
    simp only at hlo hex hfin hxl
    clear bn2 be2 bf2 bp2 hbn hF hKf hok hlk hsn hB0 bf bp bn be bN hR hmx hE hBW h hG hz1 hs1 hz0 hB1 q hb1
    gi_wp2
    gi_region
    all_goals gi_wp2
    all_goals exact hfin
   | false =>
    rw [hd] at cr
    simp only [stp, isDir, hd, Bool.false_eq_true, if_false] at hsn
    have h2 : w.heap.size + 1 + 1 < W.heap.size := by have := hKf.1; omega
    have h3 : w.heap.size + 1 + 1 + 1 < W.heap.size := by have := hKf.1; omega
    have be3 : ∀ v, Boxed (W.setCell ⟨w.heap.size + 1 + 1, 0, none⟩ v) (w.heap.size + 1 + 1 + 1) 62 .nilIface := fun v => (Below.heap_setCell _ _ _ _ (by simp)).trans be2
    have ce2 := fun v => (be3 v).cell
    have fe2 := fun v => (be3 v).frozen
    have ce3 := fun v o => ((be3 v).alloc o).cell
    have fe3 := fun v o => ((be3 v).alloc o).frozen
    have hfin := flt_fin (W0 := W0) (pre := pre ++ [x]) bn2 be2 (by omega) hBW (by omega) (by omega) hsn
    clear be3 bn2 be2 bf2 bp2 hbn hF hKf hok hlk hsn hB0 bf bp bn be bN hR hmx hE hBW h hG hz1 hs1 hz0 hB1 q hb1
    gi_wp2
    gi_region
    all_goals gi_wp2
    all_goals exact hfin
 case done =>
  rintro D ys W hD hys ⟨hKf, hBW, hbn, hok⟩ hK
  have hlp : lookE isDir L p (pls ys) = lookP isDir L p := by unfold lookP; rw [hys]
  rw [hlp] at hbn hok
  have bn2 := kf_box hKf bn (by omega) (by omega)
  have be2 := kf_box hKf be (by omega) (by omega)
  have cn := bn2.cell
  have ce := be2.cell
  have fn := bn2.frozen
  have fe := be2.frozen
  have hDW : D < W.heap.size := lt_of_block hK
  cases hlk : lookP isDir L p with
  | bad n => rw [hlk] at hok; exact hok.elim
  | non =>
   rw [hlk] at hbn
   have c0 := hbn.cell
   have eq0 := eq_nil_nil
   have cg := (hG.keep (hBW.mono hB)).c0
   have cp := (kf_box hKf bp (by omega) (by omega)).cell
   have h2 : w.heap.size + 1 + 1 < W.heap.size := by have := hKf.1; omega
   have h3 : w.heap.size + 1 + 1 + 1 < W.heap.size := by have := hKf.1; omega
   have be3 : ∀ v, Boxed (W.setCell ⟨w.heap.size + 1 + 1, 0, none⟩ v) (w.heap.size + 1 + 1 + 1) 62 .nilIface := fun v => (Below.heap_setCell _ _ _ _ (by simp)).trans be2
   have ce2 := fun v => (be3 v).cell
   have fe2 := fun v => (be3 v).frozen
   have ce3 := fun v o => ((be3 v).alloc o).cell
   have fe3 := fun v o => ((be3 v).alloc o).frozen
   simp only [lkPtr] at c0
   clear hKf
   gi_wp2
   gi_region
   gi_wp2
   have hn' := fltW_n (Rn := w.heap.size + 1 + 1) (Re := w.heap.size + 1 + 1 + 1) (p := mk p) (x := .iface 289 (.pointer (some E))) bn2 (by omega)
   have he' := fltW_e (Rn := w.heap.size + 1 + 1) (Re := w.heap.size + 1 + 1 + 1) (p := mk p) (x := .iface 289 (.pointer (some E))) be2 (by omega)
   have hf' := fltW_f W (w.heap.size + 1 + 1) (w.heap.size + 1 + 1 + 1) (mk p) (.iface 289 (.pointer (some E)))
   have hK' := (fltW_other (Rn := w.heap.size + 1 + 1) (Re := w.heap.size + 1 + 1 + 1) (mk p) (.iface 289 (.pointer (some E))) hDW (by omega) (by omega)).trans hK
   have hB' := fltW_below (mk p) (.iface 289 (.pointer (some E))) hBW (Rn := w.heap.size + 1 + 1) (Re := w.heap.size + 1 + 1 + 1) (by omega) (by omega) hBW.size
   have hz' := fltW_size W (w.heap.size + 1 + 1) (w.heap.size + 1 + 1 + 1) (mk p) (.iface 289 (.pointer (some E)))
   change bodyPostM _ _ _ _ _ _ _ (fltW W (w.heap.size + 1 + 1) (w.heap.size + 1 + 1 + 1) (mk p) (.iface 289 (.pointer (some E)))).drew
   generalize fltW W (w.heap.size + 1 + 1) (w.heap.size + 1 + 1 + 1) (mk p) (.iface 289 (.pointer (some E))) = X at hn' he' hf' hK' hB' hz'
   refine ⟨by simp, .inl ⟨_, _, rfl, run_takeDeferred (w := X.drew) hK', ?_⟩⟩
   have hg := grownBy_putObj' X.drew D (.deferred none)
   have hrw : ∀ r, some D = some r → ∃ o : Obj, X.drew.heap[r]? = some o ∧ o.isCells = false := fun r e => by cases e; exact ⟨_, hK', rfl⟩
   have hn2 := box_own (W := X.drew) hn' hg hrw
   have he2 := box_own (W := X.drew) he' hg hrw
   refine ⟨_, res57 _ (w.heap.size + 1 + 1) (w.heap.size + 1 + 1 + 1) _ _ _ rfl rfl hn2.cell he2.cell, ?_, hB'.drew.grown hg hB'.size (fun k e => by cases e; omega)⟩
   rw [hlk]
   exact ⟨W.heap.size, rfl, _, (hg.block W.heap.size (by show _ < X.heap.size; omega) (fun e => by cases e; omega)).trans hf'⟩
  | rt =>
   rw [hlk] at hbn
   have c0 := hbn.cell
   have eq0 := eq_ptr_nil w1.heap.size
   have hrt := (hKf.2 w1.heap.size (by omega) (by omega)).trans hR
   simp only [lkPtr] at c0
   have h2 : w.heap.size + 1 + 1 < W.heap.size := by have := hKf.1; omega
   have h3 : w.heap.size + 1 + 1 + 1 < W.heap.size := by have := hKf.1; omega
   have be3 : ∀ v, Boxed (W.setCell ⟨w.heap.size + 1 + 1, 0, none⟩ v) (w.heap.size + 1 + 1 + 1) 62 .nilIface := fun v => (Below.heap_setCell _ _ _ _ (by simp)).trans be2
   have ce2 := fun v => (be3 v).cell
   have fe2 := fun v => (be3 v).frozen
   gi_wp2
   have hn' := okW_n (Rn := w.heap.size + 1 + 1) (Re := w.heap.size + 1 + 1 + 1) (v := .pointer (some ⟨w1.heap.size, 0, none⟩)) bn2 (by omega)
   have he' := okW_e (Rn := w.heap.size + 1 + 1) (Re := w.heap.size + 1 + 1 + 1) (v := .pointer (some ⟨w1.heap.size, 0, none⟩)) be2 (by omega)
   have hK' := (okW_other (Rn := w.heap.size + 1 + 1) (Re := w.heap.size + 1 + 1 + 1) (.pointer (some ⟨w1.heap.size, 0, none⟩)) (by omega) (by omega)).trans hK
   have hB' := okW_below (.pointer (some ⟨w1.heap.size, 0, none⟩)) hBW (Rn := w.heap.size + 1 + 1) (Re := w.heap.size + 1 + 1 + 1) (by omega) (by omega)
   have hz' := okW_size W (w.heap.size + 1 + 1) (w.heap.size + 1 + 1 + 1) (.pointer (some ⟨w1.heap.size, 0, none⟩))
   have hR' := (okW_other (W := W) (Rn := w.heap.size + 1 + 1) (Re := w.heap.size + 1 + 1 + 1) (k := w1.heap.size) (.pointer (some ⟨w1.heap.size, 0, none⟩)) (by omega) (by omega)).trans hrt
   change bodyPostM _ _ _ _ _ _ _ (okW W (w.heap.size + 1 + 1) (w.heap.size + 1 + 1 + 1) (.pointer (some ⟨w1.heap.size, 0, none⟩)))
   generalize okW W (w.heap.size + 1 + 1) (w.heap.size + 1 + 1 + 1) (.pointer (some ⟨w1.heap.size, 0, none⟩)) = X at hn' he' hK' hB' hz' hR'
   refine ⟨by simp, .inl ⟨_, _, rfl, run_takeDeferred hK', ?_⟩⟩
   have hg := grownBy_putObj' X D (.deferred none)
   have hrw : ∀ r, some D = some r → ∃ o : Obj, X.heap[r]? = some o ∧ o.isCells = false := fun r e => by cases e; exact ⟨_, hK', rfl⟩
   have hn2 := box_own hn' hg hrw
   have he2 := box_own he' hg hrw
   refine ⟨_, res57 _ (w.heap.size + 1 + 1) (w.heap.size + 1 + 1 + 1) _ _ _ rfl rfl hn2.cell he2.cell, ?_, hB'.grown hg hB'.size (fun k e => by cases e; omega)⟩
   rw [hlk]
   exact ⟨w1.heap.size, by omega, rfl, (hg.block w1.heap.size (by have := hKf.1; omega) (fun e => by cases e; omega)).trans hR'⟩
  | is e =>
   rw [hlk] at hbn
   have c0 := hbn.cell
   have eq0 := eq_ptr_nil e.blk
   simp only [lkPtr] at c0
   have h2 : w.heap.size + 1 + 1 < W.heap.size := by have := hKf.1; omega
   have h3 : w.heap.size + 1 + 1 + 1 < W.heap.size := by have := hKf.1; omega
   have be3 : ∀ v, Boxed (W.setCell ⟨w.heap.size + 1 + 1, 0, none⟩ v) (w.heap.size + 1 + 1 + 1) 62 .nilIface := fun v => (Below.heap_setCell _ _ _ _ (by simp)).trans be2
   have ce2 := fun v => (be3 v).cell
   have fe2 := fun v => (be3 v).frozen
   gi_wp2
   have hn' := okW_n (Rn := w.heap.size + 1 + 1) (Re := w.heap.size + 1 + 1 + 1) (v := .pointer (some ⟨e.blk, 0, none⟩)) bn2 (by omega)
   have he' := okW_e (Rn := w.heap.size + 1 + 1) (Re := w.heap.size + 1 + 1 + 1) (v := .pointer (some ⟨e.blk, 0, none⟩)) be2 (by omega)
   have hK' := (okW_other (Rn := w.heap.size + 1 + 1) (Re := w.heap.size + 1 + 1 + 1) (.pointer (some ⟨e.blk, 0, none⟩)) (by omega) (by omega)).trans hK
   have hB' := okW_below (.pointer (some ⟨e.blk, 0, none⟩)) hBW (Rn := w.heap.size + 1 + 1) (Re := w.heap.size + 1 + 1 + 1) (by omega) (by omega)
   have hz' := okW_size W (w.heap.size + 1 + 1) (w.heap.size + 1 + 1 + 1) (.pointer (some ⟨e.blk, 0, none⟩))
   change bodyPostM _ _ _ _ _ _ _ (okW W (w.heap.size + 1 + 1) (w.heap.size + 1 + 1 + 1) (.pointer (some ⟨e.blk, 0, none⟩)))
   generalize okW W (w.heap.size + 1 + 1) (w.heap.size + 1 + 1 + 1) (.pointer (some ⟨e.blk, 0, none⟩)) = X at hn' he' hK' hB' hz'
   refine ⟨by simp, .inl ⟨_, _, rfl, run_takeDeferred hK', ?_⟩⟩
   have hg := grownBy_putObj' X D (.deferred none)
   have hrw : ∀ r, some D = some r → ∃ o : Obj, X.heap[r]? = some o ∧ o.isCells = false := fun r e => by cases e; exact ⟨_, hK', rfl⟩
   have hn2 := box_own hn' hg hrw
   have he2 := box_own he' hg hrw
   refine ⟨_, res57 _ (w.heap.size + 1 + 1) (w.heap.size + 1 + 1 + 1) _ _ _ rfl rfl hn2.cell he2.cell, ?_, hB'.grown hg hB'.size (fun k e => by cases e; omega)⟩
   rw [hlk]
   exact rfl
 case stop =>
  rintro D c pre W hD hpre ⟨rfl, hBW, n, b, hl, hbn, hbe, hfl⟩ hK
  have hbn2 := box_own hbn (grownBy_putObj' W D (.deferred none)) (fun r e => by cases e; exact ⟨_, hK, rfl⟩)
  have hbe2 := box_own hbe (grownBy_putObj' W D (.deferred none)) (fun r e => by cases e; exact ⟨_, hK, rfl⟩)
  have hfl2 := flt_own hfl (grownBy_putObj' W D (.deferred none)) (fun r e => by cases e; exact ⟨_, hK, rfl⟩)
  have hB2 : Below w.heap.size w (W.putObj D (.deferred none)) := hBW.grown (grownBy_putObj' W D (.deferred none)) hBW.size (fun k e => by cases e; omega)
  gi_wp2
  refine ⟨by simp, .inl ⟨_, _, rfl, run_takeDeferred hK, ?_⟩⟩
  refine ⟨_, res57 _ (w.heap.size + 1 + 1) (w.heap.size + 1 + 1 + 1) _ _ _ rfl rfl hbn2.cell hbe2.cell, ?_, hB2⟩
  rw [lk_bad hpre hl]
  exact ⟨b, rfl, hfl2⟩
end Go.Proofs.YtabmnkddmdffkaaGreatDoor
