import Derived.Test.YtabmnkddmdffkaaGreatDoorAPlc
import Derived.Test.YtabmnkddmdffkaaGreatDoorAChgG
namespace Go.Proofs.YtabmnkddmdffkaaGreatDoor.Sk
open Go.RowKit Go.Shelf Tx
attribute [local go_sem] Oper.semAt_some
def frst (t : Bs → Option Int) (PL : List Bs) : Option Bs := PL.find? fun p => (t p).isSome
def FdV (w' : World) (Ea : Addr) (r : Ending) : Option Bs → Prop
 | some p => r = .returned (.tuple #[.string (mk p), .nilIface])
 | none => ∃ v, r = .returned (.tuple #[.string ⟨#[]⟩, v]) ∧ Ab w' Ea v
def okS (W : World) (Rn Re : Nat) (v : Value) : World := (W.setCell ⟨Rn, 0, none⟩ v).setCell ⟨Re, 0, none⟩ .nilIface
theorem okS_n {W : World} {Rn Re : Nat} {v u : Value} (hn : Boxed W Rn 9 u) (hne : Rn ≠ Re) : Boxed (okS W Rn Re v) Rn 9 v := (Below.heap_setCell _ _ _ _ hne).trans (hn.set v)
theorem okS_e {W : World} {Rn Re : Nat} {v u : Value} (he : Boxed W Re 62 u) (hne : Rn ≠ Re) : Boxed (okS W Rn Re v) Re 62 .nilIface := by
 have h1 : Boxed (W.setCell ⟨Rn, 0, none⟩ v) Re 62 u := (Below.heap_setCell _ _ _ _ hne.symm).trans he
 exact h1.set _
theorem okS_other {W : World} {Rn Re k : Nat} (v : Value) (h1 : k ≠ Rn) (h2 : k ≠ Re) : (okS W Rn Re v).heap[k]? = W.heap[k]? := (Below.heap_setCell _ _ _ _ h2).trans (Below.heap_setCell _ _ _ _ h1)
theorem okS_below {B : Nat} {w W : World} {Rn Re : Nat} (v : Value) (h : Below B w W) (h1 : B ≤ Rn) (h2 : B ≤ Re) : Below B w (okS W Rn Re v) := (h.setCell (p := ⟨Rn, 0, none⟩) h1 _).setCell (p := ⟨Re, 0, none⟩) h2 _
theorem okS_size (W : World) (Rn Re : Nat) (v : Value) : (okS W Rn Re v).heap.size = W.heap.size := by simp [okS]
theorem res27s (tmps : Array Value) (bn be : Nat) (x y : Value) (W : World) (h6 : tmps.getD 6 undef = .pointer (some ⟨bn, 0, none⟩)) (h7 : tmps.getD 7 undef = .pointer (some ⟨be, 0, none⟩)) (c1 : W.cell? ⟨bn, 0, none⟩ = some x) (c2 : W.cell? ⟨be, 0, none⟩ = some y) :
  (results Tryz.f27 tmps).run Tryz.prog W = .ok (.tuple #[x, y]) W := by
 simp only [Array.getD_eq_getD_getElem?] at h6 h7
 simp [results, Tryz.results27, go_sem, h6, h7, c1, c2]
structure NfE (w Z : World) (name : ByteArray) (Ea : Addr) (D : Nat) (X : World) : Prop where
 bp : Boxed X (w.heap.size + 1) 9 (.string ⟨#[]⟩)
 be : Boxed X (w.heap.size + 1 + 1) 62 (.iface 113 (.pointer (some ⟨Z.heap.size, 0, none⟩)))
 fl : X.heap[Z.heap.size]? = some (.cells #[.string name, .iface 289 (.pointer (some Ea))] 115 (0, 0))
 df : X.heap[D]? = some (.deferred (some []))
 bel : Below w.heap.size w X
theorem nfe_a {w Z : World} {name : ByteArray} {Ea : Addr} {D : Nat} (hb : Below w.heap.size w Z) (bp : Boxed Z (w.heap.size + 1) 9 (.string ⟨#[]⟩)) (be : Boxed Z (w.heap.size + 1 + 1) 62 .nilIface) (hD : w.heap.size + 3 ≤ D) (hK : Z.heap[D]? = some (.deferred (some []))) :
  NfE w Z name Ea D (((Z.alloc (.cells #[.string name, .iface 289 (.pointer (some Ea))] 115)).setCell ⟨w.heap.size + 1, 0, none⟩ (.string ⟨#[]⟩)).setCell ⟨w.heap.size + 1 + 1, 0, none⟩ (.iface 113 (.pointer (some ⟨Z.heap.size, 0, none⟩)))).drew := by
 have hD2 := lt_of_block hK
 have hz := bp.lt
 have hz2 := be.lt
 have e0 := World.alloc_heap_new Z (.cells #[.string name, .iface 289 (.pointer (some Ea))] 115)
 refine ⟨?_, ?_, ?_, ?_, ?_⟩
 ·exact (Below.heap_setCell _ _ _ _ (by simp)).trans ((bp.alloc _).set _)
 ·have h1 : Boxed ((Z.alloc (.cells #[.string name, .iface 289 (.pointer (some Ea))] 115)).setCell ⟨w.heap.size + 1, 0, none⟩ (.string ⟨#[]⟩)) (w.heap.size + 1 + 1) 62 .nilIface := (Below.heap_setCell _ _ _ _ (by simp)).trans (be.alloc _)
  exact h1.set _
 ·exact (Below.heap_setCell _ _ _ _ (by simp only; omega)).trans ((Below.heap_setCell _ _ _ _ (by simp only; omega)).trans e0)
 ·exact (Below.heap_setCell _ _ _ _ (by simp only; omega)).trans ((Below.heap_setCell _ _ _ _ (by simp only; omega)).trans ((Below.heap_alloc _ _ _ hD2).trans hK))
 ·exact (((hb.alloc hb.size _).setCell (p := ⟨w.heap.size + 1, 0, none⟩) (by simp only; omega) _).setCell (p := ⟨w.heap.size + 1 + 1, 0, none⟩) (by simp only; omega) _).drew
theorem nfe_b {w Z : World} {name : ByteArray} {Ea : Addr} {D : Nat} (hb : Below w.heap.size w Z) (bp : Boxed Z (w.heap.size + 1) 9 (.string ⟨#[]⟩)) (be : Boxed Z (w.heap.size + 1 + 1) 62 .nilIface) (hD : w.heap.size + 3 ≤ D) (hK : Z.heap[D]? = some (.deferred (some []))) :
  NfE w Z name Ea D (((Z.setCell ⟨w.heap.size + 1, 0, none⟩ (.string ⟨#[]⟩)).setCell ⟨w.heap.size + 1 + 1, 0, none⟩ (.iface 113 (.pointer (some ⟨Z.heap.size, 0, none⟩)))).alloc (.cells #[.string name, .iface 289 (.pointer (some Ea))] 115)).drew := by
 have hD2 := lt_of_block hK
 have hz := bp.lt
 have hz2 := be.lt
 have hY : ((Z.setCell ⟨w.heap.size + 1, 0, none⟩ (.string ⟨#[]⟩)).setCell ⟨w.heap.size + 1 + 1, 0, none⟩ (.iface 113 (.pointer (some ⟨Z.heap.size, 0, none⟩)))).heap.size = Z.heap.size := by simp
 have e0 := World.alloc_heap_new ((Z.setCell ⟨w.heap.size + 1, 0, none⟩ (.string ⟨#[]⟩)).setCell ⟨w.heap.size + 1 + 1, 0, none⟩ (.iface 113 (.pointer (some ⟨Z.heap.size, 0, none⟩)))) (.cells #[.string name, .iface 289 (.pointer (some Ea))] 115)
 rw [hY] at e0
 refine ⟨?_, ?_, e0, ?_, ?_⟩
 ·exact (Below.heap_alloc _ _ _ (by rw [hY]; omega)).trans ((Below.heap_setCell _ _ _ _ (by simp)).trans (bp.set _))
 ·have h1 : Boxed (Z.setCell ⟨w.heap.size + 1, 0, none⟩ (.string ⟨#[]⟩)) (w.heap.size + 1 + 1) 62 .nilIface := (Below.heap_setCell _ _ _ _ (by simp)).trans be
  exact (Below.heap_alloc _ _ _ (by rw [hY]; omega)).trans (h1.set _)
 ·exact (Below.heap_alloc _ _ _ (by rw [hY]; omega)).trans ((Below.heap_setCell _ _ _ _ (by simp only; omega)).trans ((Below.heap_setCell _ _ _ _ (by simp only; omega)).trans hK))
 ·exact (((hb.setCell (p := ⟨w.heap.size + 1, 0, none⟩) (by simp only; omega) _).setCell (p := ⟨w.heap.size + 1 + 1, 0, none⟩) (by simp only; omega) _).alloc (by rw [hY]; exact hb.size) _).drew
theorem frst_no (t : Bs → Option Int) (L : List Bs) (h : ∀ y ∈ L, t y = none) : frst t L = none := by
 unfold frst
 rw [List.find?_eq_none]
 intro y hy
 rw [h y hy]; decide
theorem frst_yes (t : Bs → Option Int) (P : List Bs) (x : Bs) (L : List Bs) (h : ∀ y ∈ P, t y = none) (hx : (t x).isSome = true) (hp : P ++ [x] <+: L) : frst t L = some x := by
 obtain ⟨r, rfl⟩ := hp
 unfold frst
 have h1 : P.find? (fun p => (t p).isSome) = none := frst_no t P h
 rw [List.append_assoc, List.find?_append, h1, Option.none_or, List.singleton_append, List.find?_cons, hx]
structure FdI (w : World) (A : Nat) (t : Bs → Option Int) (pre : List Wd) (Z : World) : Prop where
 bel : Below w.heap.size w Z
 none' : ∀ y ∈ pre.map bytesOf, t y = none
 bf : Boxed Z w.heap.size 30 (.pointer (some ⟨A, 0, none⟩))
 bp : Boxed Z (w.heap.size + 1) 9 (.string ⟨#[]⟩)
 be : Boxed Z (w.heap.size + 1 + 1) 62 .nilIface
 sz : w.heap.size + 1 + 1 < Z.heap.size
theorem FdI.keep {w : World} {A : Nat} {t : Bs → Option Int} {pre : List Wd} {X Y : World} (h : FdI w A t pre X) (hb : Below (w.heap.size + 3) X Y) : FdI w A t pre Y :=
 ⟨h.bel.trans (hb.mono (by omega)), h.none', (hb.block _ (by omega)).trans h.bf, (hb.block _ (by omega)).trans h.bp, (hb.block _ (by omega)).trans h.be, Nat.lt_of_lt_of_le h.sz hb.size⟩
structure FdX (w : World) (t : Bs → Option Int) (PL : List Bs) (c : Code) (Z : World) : Prop where
 ret : c = .ret
 bel : Below w.heap.size w Z
 hit : ∃ p, frst t PL = some p ∧ Boxed Z (w.heap.size + 1) 9 (.string (mk p))
 be : Boxed Z (w.heap.size + 1 + 1) 62 .nilIface
theorem FdX.keep {w : World} {t : Bs → Option Int} {PL : List Bs} {c : Code} {X Y : World} (h : FdX w t PL c X) (hb : Below (w.heap.size + 3) X Y) : FdX w t PL c Y :=
 ⟨h.ret, h.bel.trans (hb.mono (by omega)), by obtain ⟨p, h1, h2⟩ := h.hit; exact ⟨p, h1, (hb.block _ (by omega)).trans h2⟩, (hb.block _ (by omega)).trans h.be⟩
theorem nf_end {w Z X : World} {name : ByteArray} {Ea : Addr} {D : Nat} {t : Bs → Option Int} {PL : List Bs} {a : Act} (hfr : frst t PL = none) (hE : NfE w Z name Ea D X) (hD : w.heap.size + 3 ≤ D)
  (h6 : a.tmps.getD 6 undef = .pointer (some ⟨w.heap.size + 1, 0, none⟩)) (h7 : a.tmps.getD 7 undef = .pointer (some ⟨w.heap.size + 1 + 1, 0, none⟩)) (hd : a.defers = [{ target := .collected D, args := #[] }]) :
  bodyPostM Fence.wide 6 Tryz.prog Tryz.f27 (fun e w' => FdV w' Ea e (frst t PL) ∧ Below w.heap.size w w') Exit.ret a X := by
 show LeavesInM _ _ _ _ _ _ _ _ _
 rw [hd]
 have hDX := lt_of_block hE.df
 have hb2 := below_putObj (N := w.heap.size + 3) (A := X) (.deferred none) hD hDX
 have hX2 : ∀ k o, X.heap[k]? = some o → k ≠ D → (X.putObj D (.deferred none)).heap[k]? = some o := fun k o h hne => (World.putObj_heap_other hne).trans h
 have b1 : Boxed (X.putObj D (.deferred none)) (w.heap.size + 1) 9 (.string ⟨#[]⟩) := hX2 _ _ hE.bp (by omega)
 have b2 : Boxed (X.putObj D (.deferred none)) (w.heap.size + 1 + 1) 62 (.iface 113 (.pointer (some ⟨Z.heap.size, 0, none⟩))) := hX2 _ _ hE.be (by omega)
 have hDZ : Z.heap.size ≠ D := fun e => by have h1 := hE.fl; rw [e, hE.df] at h1; cases h1
 refine ⟨by simp, .inl ⟨_, _, rfl, run_takeDeferred hE.df, ?_⟩⟩
 refine ⟨_, res27s _ (w.heap.size + 1) (w.heap.size + 1 + 1) _ _ _ h6 h7 b1.cell b2.cell, ?_⟩
 rw [hfr]
 exact ⟨⟨_, rfl, .inr (.inl (.wrap 0 _ name _ (hX2 _ _ hE.fl hDZ) .one))⟩, hE.bel.trans (hb2.mono (by omega))⟩
set_option maxRecDepth 100000 in
set_option maxHeartbeats 2000000 in
theorem found_any (B A : Nat) (Ea E : Addr) (lb : Array Value) (PL : List Bs) (t : Bs → Option Int) (name : ByteArray) (w : World) (hG : Gl B w Ea E) (hB : B ≤ w.heap.size)
  (hseq : ∀ w1, Below w.heap.size w w1 → SeqL 5 Tryz.prog 55 lb (fun x : Wd => #[.string x.1]) (fun pre x => (pre ++ [x]).map bytesOf <+: PL) (fun ys => ys.map bytesOf = PL) (fun _ => True) w1)
  (hCh : ∀ (x : Wd) w1, bytesOf x ∈ PL → Below w.heap.size w w1 → Calls Tryz.prog 34 #[.pointer (some ⟨A, 0, none⟩), .string x.1] w1 fun e w' => ChV w' Ea e (t (bytesOf x)) ∧ Below w1.heap.size w1 w') :
  Calls Tryz.prog 27 #[.pointer (some ⟨A, 0, none⟩), .string name, .func (.func 55) #[] lb] w fun e w' => FdV w' Ea e (frst t PL) ∧ Below w.heap.size w w' := by
 have HSEQ := hide' hseq
 have HCH := hide' hCh
 have HG := hide' hG
 clear hseq hCh hG
 refine (callsIn_wide (n := 6)).1 ?_
 refine callsIn_of_wp_marks Tryz.func27 rfl trivial ?_ rfl
 simp only [Tryz.ntmps27, List.size_toArray, List.length_cons, List.length_nil, Nat.reduceAdd, Nat.reduceSub, Array.replicate_succ, Array.replicate_zero, List.push_toArray, List.append_toArray, List.nil_append, List.cons_append]
 gi_wp2
 obtain ⟨W3, hW3⟩ : ∃ W3, W3 = ((w.alloc (Obj.cells #[Value.pointer (some ⟨A, 0, none⟩)] 30)).alloc (Obj.cells #[Value.string ⟨#[]⟩] 9)).alloc (Obj.cells #[Value.nilIface] 62) := ⟨_, rfl⟩
 rw [← hW3]
 have hs3 : W3.heap.size = w.heap.size + 3 := by rw [hW3]; simp
 have hb3 : Below w.heap.size w W3 := by rw [hW3]; exact (((Below.refl _ w).alloc (Nat.le_refl _) _).alloc (by simp) _).alloc (by simp; omega) _
 have bf : Boxed W3 w.heap.size 30 (.pointer (some ⟨A, 0, none⟩)) := by rw [hW3]; exact ((Boxed.new w 30 _).alloc _).alloc _
 have bp : Boxed W3 (w.heap.size + 1) 9 (.string ⟨#[]⟩) := by
  have := (Boxed.new (w.alloc (Obj.cells #[Value.pointer (some ⟨A, 0, none⟩)] 30)) 9 (.string ⟨#[]⟩)).alloc (Obj.cells #[Value.nilIface] 62)
  rw [World.size_alloc, ← hW3] at this
  exact this
 have be : Boxed W3 (w.heap.size + 1 + 1) 62 .nilIface := by
  have := Boxed.new ((w.alloc (Obj.cells #[Value.pointer (some ⟨A, 0, none⟩)] 30)).alloc (Obj.cells #[Value.string ⟨#[]⟩] 9)) 62 .nilIface
  rw [World.size_alloc, World.size_alloc, ← hW3] at this
  exact this
 have hI0 : FdI w A t [] W3 := ⟨hb3, fun _ h => by simp at h, bf, bp, be, by omega⟩
 have hsq := HSEQ.out W3 hb3
 clear hW3 bf bp be HSEQ
 refine range_l (n := 6) (by decide) (gf := 55) (lb := lb) rfl (enters_of Tryz.func55 (by kernel_rfl) rfl) hsq (fun _ => rfl)
  (fun pre Z => FdI w A t pre Z) (fun c _ Z => FdX w t PL c Z)
  (fun pre X Y h hb => h.keep (hs3 ▸ hb)) (fun c _ X Y h hb => h.keep (hs3 ▸ hb)) hI0
  (fun x => { tmps := #[.pointer (some ⟨A, 0, none⟩), .string name, .func (.func 55) #[] lb, .pointer (some ⟨w.heap.size, 0, none⟩), undef, undef, .pointer (some ⟨w.heap.size + 1, 0, none⟩), .pointer (some ⟨w.heap.size + 1 + 1, 0, none⟩), .string x.1, undef, undef, .func (.func 55) #[] lb, .string x.1, undef, undef, undef, undef, undef, undef, undef, undef, undef, undef, undef, undef, undef, undef, undef, undef], defers := [] }) ?assign ?body ?done ?stop
 case assign =>
  intro l2 x Z K hK
  gi_wp2
  exact hK
 case body =>
  rintro l2 pre x Z hpf hsz hI
  have hmem : bytesOf x ∈ PL := hpf.subset (by simp)
  have kc := HCH.out x Z hmem hI.bel
  have cf := hI.bf.cell
  have HI := hide' hI
  have HPF := hide' hpf
  have hs2 := hI.sz
  clear hsq hI0 hI hpf hmem HCH
  cases ht : t (bytesOf x) with
  | some v =>
   rw [ht] at kc
   have HTT := hide' ht
   clear ht
   gi_wp2_with (refine ⟨trivial, ?_⟩; gi_at_call 34; refine (CallsIn.inRound l2 (callsIn_wide.2 kc)).mono ?_)
   rintro e w1 ⟨rfl, hb1⟩
   have hI1 := HI.out.keep (hb1.mono (by omega))
   have ca := (HG.out.keep (hI1.bel.mono hB)).ca
   have kn := is_nil Ea w1
   have HI1 := hide' hI1
   have cp := hI1.bp.cell
   have fp := hI1.bp.frozen
   have be3 : ∀ u, Boxed (w1.setCell ⟨w.heap.size + 1, 0, none⟩ u) (w.heap.size + 1 + 1) 62 .nilIface := fun u => (Below.heap_setCell _ _ _ _ (by simp)).trans hI1.be
   have ce2 := fun u => (be3 u).cell
   have fe2 := fun u => (be3 u).frozen
   clear hI1 kc cf be3
   gi_wp2_with (refine ⟨trivial, ?_⟩; gi_at_call 29; refine (CallsIn.inRound l2 (callsIn_wide.2 kn)).mono ?_; rintro e w2 ⟨rfl, rfl⟩)
   have hmem1 : mk (bytesOf x) = x.1 := by unfold bytesOf; rfl
   refine ⟨⟨?_, fun k hk hl => ?_⟩, rfl, okS_below _ (HI1.out.bel) (by omega) (by omega), ⟨bytesOf x, frst_yes t (pre.map bytesOf) (bytesOf x) PL HI1.out.none' (by rw [HTT.out]; rfl) (by have := HPF.out; rwa [List.map_append, List.map_singleton] at this), ?_⟩, okS_e HI1.out.be (by omega)⟩
   ·have h1 := okS_size w2 (w.heap.size + 1) (w.heap.size + 1 + 1) (.string x.1)
    have h2 := hb1.size
    unfold okS at h1
    rw [h1]; exact h2
   ·have h1 := okS_other (W := w2) (Rn := w.heap.size + 1) (Re := w.heap.size + 1 + 1) (k := k) (.string x.1) (by omega) (by omega)
    unfold okS at h1
    rw [h1]; exact hb1.block k hl
   ·rw [hmem1]
    exact okS_n HI1.out.bp (by omega)
  | none =>
   rw [ht] at kc
   have HTT := hide' ht
   clear ht
   gi_wp2_with (refine ⟨trivial, ?_⟩; gi_at_call 34; refine (CallsIn.inRound l2 (callsIn_wide.2 kc)).mono ?_)
   rintro e w1 ⟨⟨v, rfl, hv⟩, hb1⟩
   have hI1 := HI.out.keep (hb1.mono (by omega))
   have ca := (HG.out.keep (hI1.bel.mono hB)).ca
   have kn := is_ab Ea v w1 hv
   have HI1 := hide' hI1
   clear hI1 kc cf hv
   gi_wp2_with (refine ⟨trivial, ?_⟩; gi_at_call 29; refine (CallsIn.inRound l2 (callsIn_wide.2 kn)).mono ?_; rintro e w2 ⟨rfl, rfl⟩)
   exact ⟨Kp.below hb1, HI1.out.bel, fun y hy => by
    rw [List.map_append, List.map_singleton] at hy
    rcases List.mem_append.1 hy with h | h
    ·exact HI1.out.none' y h
    ·rw [List.mem_singleton.1 h]; exact HTT.out, HI1.out.bf, HI1.out.bp, HI1.out.be, HI1.out.sz⟩
 case done =>
  rintro D ys Z hD hys hI hK
  have hfr : frst t PL = none := frst_no t PL (fun y hy => hI.none' y (hys ▸ hy))
  have HFR := hide' hfr
  have ca := (HG.out.keep (hI.bel.mono hB)).ca
  have cp := hI.bp.cell
  have ce := hI.be.cell
  have fp := hI.bp.frozen
  have fe := hI.be.frozen
  have hDZ : D < Z.heap.size := lt_of_block hK
  have cpa := fun o => (hI.bp.alloc o).cell
  have fpa := fun o => (hI.bp.alloc o).frozen
  have be3 : ∀ o u, Boxed ((Z.alloc o).setCell ⟨w.heap.size + 1, 0, none⟩ u) (w.heap.size + 1 + 1) 62 .nilIface := fun o u => (Below.heap_setCell _ _ _ _ (by simp)).trans (hI.be.alloc o)
  have ce2 := fun o u => (be3 o u).cell
  have fe2 := fun o u => (be3 o u).frozen
  have HI := hide' hI
  have hs2 := hI.sz
  clear hI hsq hI0 hfr be3 hys HCH
  gi_wp2
  gi_region
  all_goals gi_wp2
  ·have hE := nfe_a (name := name) (Ea := Ea) HI.out.bel HI.out.bp HI.out.be (by omega) hK
   generalize (((Z.alloc (Obj.cells #[Value.string name, Value.iface 289 (.pointer (some Ea))] 115)).setCell ⟨w.heap.size + 1, 0, none⟩ (.string ⟨#[]⟩)).setCell ⟨w.heap.size + 1 + 1, 0, none⟩ (.iface 113 (.pointer (some ⟨Z.heap.size, 0, none⟩)))).drew = X at hE
   exact nf_end HFR.out hE (by omega) rfl rfl rfl
  ·have hE := nfe_b (name := name) (Ea := Ea) HI.out.bel HI.out.bp HI.out.be (by omega) hK
   generalize (((Z.setCell ⟨w.heap.size + 1, 0, none⟩ (.string ⟨#[]⟩)).setCell ⟨w.heap.size + 1 + 1, 0, none⟩ (.iface 113 (.pointer (some ⟨Z.heap.size, 0, none⟩)))).alloc (Obj.cells #[Value.string name, Value.iface 289 (.pointer (some Ea))] 115)).drew = X at hE
   exact nf_end HFR.out hE (by omega) rfl rfl rfl
 case stop =>
  rintro D c pre Z hD _ hX hK
  obtain ⟨rfl, hbel, ⟨p, hp, hbp⟩, hbe⟩ := hX
  have HFR := hide' hp
  have hDZ : D < Z.heap.size := lt_of_block hK
  have hb2 := below_putObj (N := w.heap.size + 3) (.deferred none) (by omega : w.heap.size + 3 ≤ D) hDZ
  have c1 : (Z.putObj D (.deferred none)).cell? ⟨w.heap.size + 1, 0, none⟩ = some (.string (mk p)) := by
   have h1 : Boxed (Z.putObj D (.deferred none)) (w.heap.size + 1) 9 (.string (mk p)) := (hb2.block _ (by omega)).trans hbp
   exact h1.cell
  have c2 : (Z.putObj D (.deferred none)).cell? ⟨w.heap.size + 1 + 1, 0, none⟩ = some .nilIface := by
   have h1 : Boxed (Z.putObj D (.deferred none)) (w.heap.size + 1 + 1) 62 .nilIface := (hb2.block _ (by omega)).trans hbe
   exact h1.cell
  have hB2 : Below w.heap.size w (Z.putObj D (.deferred none)) := hbel.trans (hb2.mono (by omega))
  clear hsq hI0 hb2 hbp hbe hp HCH
  gi_wp2
  refine ⟨by simp, .inl ⟨_, _, rfl, run_takeDeferred hK, ?_⟩⟩
  refine ⟨_, res27s _ (w.heap.size + 1) (w.heap.size + 1 + 1) _ _ _ rfl rfl c1 c2, ?_⟩
  rw [HFR.out]
  exact ⟨rfl, hB2⟩
end Go.Proofs.YtabmnkddmdffkaaGreatDoor.Sk
namespace Go.Proofs.YtabmnkddmdffkaaGreatDoor.Sk
open Go.RowKit Go.Shelf
def fndP (t : Bs → Option Int) (L : List Prw) (nm dr : List UInt8) : Bs × Bool :=
 match frst t (plL L nm dr) with
 | some p => (p, true)
 | none => (nm, false)
theorem plL_short (L : List Prw) (nm dr : List UInt8) (hn : nm.length ≤ 100000) (hd : dr.length ≤ 100000) (hl : ∀ p ∈ L, p.2.size ≤ 100000) : ∀ y ∈ plL L nm dr, y.length ≤ 300000 := by
 intro y hy
 unfold plL at hy
 rcases List.mem_cons.1 hy with rfl | h
 ·omega
 ·split at h
  ·cases h
  ·obtain ⟨d, hd1, rfl⟩ := List.mem_map.1 h
   have h1 := dirL_short L nm dr 100000 hd hl d hd1
   unfold jnP
   have h2 := clean_len (d ++ 47 :: nm)
   rw [List.length_append, List.length_cons] at h2
   omega
theorem fndP_short (t : Bs → Option Int) (L : List Prw) (nm dr : List UInt8) (hn : nm.length ≤ 100000) (hd : dr.length ≤ 100000) (hl : ∀ p ∈ L, p.2.size ≤ 100000) : (fndP t L nm dr).1.length ≤ 300000 := by
 unfold fndP
 cases h : frst t (plL L nm dr) with
 | none => simp only; omega
 | some p => exact plL_short L nm dr hn hd hl p (List.mem_of_find?_eq_some h)
set_option maxRecDepth 100000 in
set_option maxHeartbeats 1000000 in
theorem Find_any (B A : Nat) (Ea E : Addr) (a : Option Addr) (m cap : Nat) (L : List Prw) (name dirs : ByteArray) (t : Bs → Option Int) (hm : m ≤ 1000000) (hns : name.size ≤ 100000) (hds : dirs.size ≤ 100000) (hls : ∀ p ∈ L, p.1.size ≤ 100000 ∧ p.2.size ≤ 100000) (w : World) (hG : Gl B w Ea E) (hB : B ≤ w.heap.size)
  (hp : Prs w a m L)
  (hCh : ∀ (x : Tx.Wd) w1, Tx.bytesOf x ∈ plL L (tl name) (tl dirs) → Below w.heap.size w w1 → Calls Tryz.prog 34 #[.pointer (some ⟨A, 0, none⟩), .string x.1] w1 fun e w' => ChV w' Ea e (t (Tx.bytesOf x)) ∧ Below w1.heap.size w1 w') :
  Calls Tryz.prog 10 #[.agg (bsC a m cap), .string dirs, .pointer (some ⟨A, 0, none⟩), .string name] w fun e w' => e = .returned (.tuple #[.string (mk (fndP t L (tl name) (tl dirs)).1), .bool (fndP t L (tl name) (tl dirs)).2]) ∧ Below w.heap.size w w' := by
 obtain ⟨w1, hw1⟩ : ∃ w1, w1 = w.alloc (.cells (bsC a m cap) 43) := ⟨_, rfl⟩
 have hb1 : Below w.heap.size w w1 := by rw [hw1]; exact (Below.refl _ _).alloc (Nat.le_refl _) _
 have hl1 := Lies.below hb1
 have q1 := places_any a m cap dirs name w1
 obtain ⟨w2, hw2⟩ : ∃ w2, w2 = box3 w1 a m cap dirs name := ⟨_, rfl⟩
 have hw2' : ((w1.alloc (Obj.cells (bsC a m cap) 43)).alloc (Obj.cells #[Value.string dirs] 9)).alloc (Obj.cells #[Value.string name] 9) = w2 := hw2.symm
 rw [hw2'] at q1
 have hb2 : Below w1.heap.size w1 w2 := by rw [hw2]; exact box3_below _ _ _ _ _ _
 have hD2 : DrC w2 w1.heap.size (w1.heap.size + 1 + 1) (w1.heap.size + 1) a m cap L name dirs := by rw [hw2]; exact box3_drc _ _ _ _ _ _ _ (hp.lies hl1) (hG.mx.lies hl1)
 have hbw : Below w.heap.size w w2 := hb1.trans (hb2.mono hb1.size)
 have hG2 : Gl B w2 Ea E := hG.keep (hbw.mono hB)
 have q2 := found_any B A Ea E #[.pointer (some ⟨w1.heap.size + 1 + 1, 0, none⟩), .pointer (some ⟨w1.heap.size, 0, none⟩), .pointer (some ⟨w1.heap.size + 1, 0, none⟩)] (plL L (tl name) (tl dirs)) t name w2 hG2 (Nat.le_trans hB hbw.size)
  (fun w3 hb3 => places_seq 5 (by decide) w1.heap.size (w1.heap.size + 1 + 1) (w1.heap.size + 1) a m cap L name dirs hm hns hds hls w3 (hD2.lies (Lies.below hb3)))
  (fun x w3 hx hb3 => hCh x w3 hx (hbw.trans (hb3.mono hbw.size)))
 have cb0 : w1.cell? ⟨w.heap.size, 0, none⟩ = some (.slice none 0 0) := by rw [hw1, Lib.cell_of_heap (World.alloc_heap_new w _)]; rfl
 have cb1 : w1.cell? ⟨w.heap.size, 1, none⟩ = some (.slice none 0 0) := by rw [hw1, Lib.cell_of_heap (World.alloc_heap_new w _)]; rfl
 have cb2 : w1.cell? ⟨w.heap.size, 2, none⟩ = some (.slice a m cap) := by rw [hw1, Lib.cell_of_heap (World.alloc_heap_new w _)]; rfl
 have cb3 : w1.cell? ⟨w.heap.size, 3, none⟩ = some (.slice none 0 0) := by rw [hw1, Lib.cell_of_heap (World.alloc_heap_new w _)]; rfl
 have cb4 : w1.cell? ⟨w.heap.size, 4, none⟩ = some (.slice none 0 0) := by rw [hw1, Lib.cell_of_heap (World.alloc_heap_new w _)]; rfl
 have cb5 : w1.cell? ⟨w.heap.size, 5, none⟩ = some (.string ⟨#[]⟩) := by rw [hw1, Lib.cell_of_heap (World.alloc_heap_new w _)]; rfl
 have cb6 : w1.cell? ⟨w.heap.size, 6, none⟩ = some (.slice none 0 0) := by rw [hw1, Lib.cell_of_heap (World.alloc_heap_new w _)]; rfl
 have hsh := fndP_short t L (tl name) (tl dirs) (by rw [tl_len]; exact hns) (by rw [tl_len]; exact hds) (fun p hp => (hls p hp).2)
 have HG2 := hide' hG2
 have hnl : (tl name).length ≤ 100000 := by rw [tl_len]; exact hns
 obtain ⟨fp, hfp⟩ : ∃ fp, fp = fndP t L (tl name) (tl dirs) := ⟨_, rfl⟩
 rw [← hfp] at hsh
 rw [← hfp]
 unfold fndP at hfp
 have hmn : mk (tl name) = name := rfl
 have hs1 : w1.heap.size = w.heap.size + 1 := by rw [hw1]; simp
 rw [hs1] at q1 q2
 have hbw2 := hbw.size
 cases hf : frst t (plL L (tl name) (tl dirs)) with
 | some p =>
  rw [hf] at q2 hfp
  have hfp1 : fp.1 = p := by rw [hfp]
  have hfp2 : fp.2 = true := by rw [hfp]
  rw [hfp1] at hsh
  have HF1 := hide' hfp1
  have HF2 := hide' hfp2
  have q3 := fun w3 => clone_any (mk p) w3 (by rw [mk_size]; omega)
  rw [hw1] at cb0 cb1 cb2 cb3 cb4 cb5 cb6 q1
  clear hf hfp hfp1 hfp2 hD2 hG2 hw2' hw2 hw1 hl1 hp hG hCh hb1 hb2 hs1
  go_enter Tryz.func10, Tryz.ntmps10
  go_wp2_with fail
  refine q1.mono ?_
  rintro e w' ⟨rfl, hww⟩
  rw [hww]
  clear hww q1 cb0 cb1 cb2 cb3 cb4 cb5 cb6
  go_wp2_with fail
  refine q2.mono ?_
  rintro e w3 ⟨rfl, hb3⟩
  have ca := (HG2.out.keep (hb3.mono (by omega))).ca
  clear q2
  go_wp2_with (go_at_call 29; refine (is_nil Ea w3).mono ?_; rintro e w' ⟨rfl, rfl⟩)
  refine (q3 _).mono ?_
  rintro e w4 ⟨rfl, hb4⟩
  go_wp2_with fail
  refine bodyPost_ret (by simp [results, Tryz.results10, go_sem]; rfl) rfl ?_
  rw [HF1.out, HF2.out]
  exact ⟨rfl, (hbw.trans (hb3.mono hbw.size)).trans (hb4.mono (by have := hb3.size; omega))⟩
 | none =>
  rw [hf] at q2 hfp
  have hfp1 : fp.1 = tl name := by rw [hfp]
  have hfp2 : fp.2 = false := by rw [hfp]
  have HF1 := hide' hfp1
  have HF2 := hide' hfp2
  have q3 := fun w3 => clone_any name w3 (by omega)
  rw [hw1] at cb0 cb1 cb2 cb3 cb4 cb5 cb6 q1
  clear hf hfp hfp1 hfp2 hD2 hG2 hw2' hw2 hw1 hl1 hp hG hCh hb1 hb2 hs1
  go_enter Tryz.func10, Tryz.ntmps10
  go_wp2_with fail
  refine q1.mono ?_
  rintro e w' ⟨rfl, hww⟩
  rw [hww]
  clear hww q1 cb0 cb1 cb2 cb3 cb4 cb5 cb6
  go_wp2_with fail
  refine q2.mono ?_
  rintro e w3 ⟨⟨v, rfl, hv⟩, hb3⟩
  have ca := (HG2.out.keep (hb3.mono (by omega))).ca
  have q4 := is_ab Ea v w3 hv
  clear q2 hv
  go_wp2_with (go_at_call 29; refine q4.mono ?_; rintro e w' ⟨rfl, rfl⟩)
  refine (q3 _).mono ?_
  rintro e w4 ⟨rfl, hb4⟩
  go_wp2_with fail
  refine bodyPost_ret (by simp [results, Tryz.results10, go_sem]; rfl) rfl ?_
  rw [HF1.out, HF2.out]
  exact ⟨rfl, (hbw.trans (hb3.mono hbw.size)).trans (hb4.mono (by have := hb3.size; omega))⟩
theorem Split_any (s : ByteArray) (hs : s.size ≤ 1000000) (w : World) :
  Calls Tryz.prog 14 #[.string s] w fun e w' => e = .returned (prV (tl s)) ∧ Below w.heap.size w w' := by
 have q := parted_any s hs w
 have hlen : (pA (tl s)).length ≤ 1000000 ∧ (pM (tl s)).length ≤ 1000000 := by
  have h1 : (bod (tl s)).length ≤ 1000000 := by unfold bod; rw [List.length_dropLast, tl_len]; omega
  unfold pA pM
  constructor <;> split <;> simp <;> omega
 obtain ⟨xa, hxa⟩ : ∃ xa, xa = mk (pA (tl s)) := ⟨_, rfl⟩
 obtain ⟨xm, hxm⟩ : ∃ xm, xm = mk (pM (tl s)) := ⟨_, rfl⟩
 obtain ⟨b, hb⟩ : ∃ b, b = isM (tl s) := ⟨_, rfl⟩
 have ha : xa.size ≤ 1000000 := by rw [hxa, mk_size]; exact hlen.1
 have hm : xm.size ≤ 1000000 := by rw [hxm, mk_size]; exact hlen.2
 unfold prV at q ⊢
 rw [← hxa, ← hxm, ← hb] at q ⊢
 have q1 := fun w => clone_any xa w (by omega)
 have q2 := fun w => clone_any xm w (by omega)
 clear hxa hxm hb hlen
 go_enter Tryz.func14, Tryz.ntmps14
 go_wp2_with fail
 refine q.mono ?_
 rintro e w1 ⟨rfl, hb1⟩
 go_wp2_with fail
 refine (q1 _).mono ?_
 rintro e w2 ⟨rfl, hb2⟩
 go_wp2_with fail
 refine (q2 _).mono ?_
 rintro e w3 ⟨rfl, hb3⟩
 go_wp2_with fail
 refine bodyPost_ret (by simp [results, Tryz.results14, go_sem]; rfl) rfl ?_
 exact ⟨rfl, (hb1.trans (hb2.mono hb1.size)).trans (hb3.mono (by have := hb1.size; have := hb2.size; omega))⟩
end Go.Proofs.YtabmnkddmdffkaaGreatDoor.Sk
