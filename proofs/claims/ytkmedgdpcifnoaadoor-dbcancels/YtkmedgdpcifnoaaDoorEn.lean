/- The contracts of db.endings.have and db.newEndings. -/
import Derived.Test.YtkmedgdpcifnoaaDoorMp
import Derived.Test.YtkmedgdpcifnoaaDoorRl
import Derived.Deep.Cut
import Derived.Deep.CutBlock
import Derived.Deep.QuietTactic
namespace Go.Proofs.YtkmedgdpcifnoaaDoor
open Go.RowKit Go.Shelf

/-- a store into a map, whose outcome is known -/
theorem wpList_upd {ops : Array Oper} {rest : List Oper} {o : Oper} {a : Act} {Q : Exit → Act → World → Prop} {w w' : World} (hgd : o.guard = none) (m x v : Operand) (t : TypeId) (hop : o.op = Op.mapUpdate t m x v)
    (hr : (Instr.mapUpdate t (a.eval m) (a.eval x) (a.eval v)).run Tryd.prog w = .ok () w') (h : wpList Tryd.prog ops Q rest (a.put o.dst undef) w') : wpList Tryd.prog ops Q (o :: rest) a w := by
  refine wpList_plain hgd fun K' hK' => ?_
  unfold Oper.wp
  simp [execOp, hop, hr, Result.andThen]
  exact hK' _ _ h
theorem have_any (lv : Value) (M : Nat) (e : List Bs) (x : Bs) (w : World) (hf : ∃ a n c, lv = .slice a n c) (h : SetAt w M e) (hx : x.length ≤ 1000000000) :
    Calls Tryd.prog 53 #[.agg #[lv, .map (some M)], sV x] w fun r w' => r = .returned (.bool (hasB e x)) ∧ Below w.heap.size w w' := by
  obtain ⟨a, n, c, rfl⟩ := hf
  have hl : ∀ o, (Instr.lookup 58 (.map (some M)) (sV x) true).run Tryd.prog (w.alloc o) = .ok (.tuple #[.agg #[], .bool (hasB e x)]) (w.alloc o) := fun o => (h.below ((Below.refl _ w).alloc (Nat.le_refl _) o)).look x (by unfold maxLen; omega)
  generalize hasB e x = b at hl ⊢
  clear h
  go_enter Tryd.func53, Tryd.ntmps53
  go_wp2
  go_ret
  exact ⟨rfl, below_alloc (below_alloc (Below.refl _ w) (Nat.le_refl _) _) (Nat.le_refl _) _⟩
def Bx2 (w : World) (b : Nat) (v0 v1 : Value) : Prop := w.heap[b]? = some (.cells #[v0, v1] 60 (0, 0))
section
variable {w : World} {b : Nat} {v0 v1 : Value}
theorem Bx2.c0 (x : Bx2 w b v0 v1) : w.cell? ⟨b, 0, none⟩ = some v0 := by unfold Bx2 at x; rw [Lib.cell_of_heap x]; rfl
theorem Bx2.c1 (x : Bx2 w b v0 v1) : w.cell? ⟨b, 1, none⟩ = some v1 := by unfold Bx2 at x; rw [Lib.cell_of_heap x]; rfl
theorem Bx2.fz (x : Bx2 w b v0 v1) (j : Nat) : w.frozen? ⟨b, j, none⟩ = false := Lib.frozen_of_heap x j
theorem Bx2.lt (x : Bx2 w b v0 v1) : b < w.heap.size := lt_of_block x
theorem Bx2.below {w' : World} (x : Bx2 w b v0 v1) (hb : Below w.heap.size w w') : Bx2 w' b v0 v1 := (hb.block b x.lt).trans x
end
/-- the suffixes that are being gathered, and the box that they lie in -/
structure EnAt (w : World) (B R M A : Nat) (lv : Value) (e : List Bs) : Prop where
  res : Bx2 w R (.slice none 0 0) (.map none)
  box : Bx2 w A lv (.map (some M))
  row : OwnS w B lv e
  set : SetAt w M e
theorem EnAt.below {w w' : World} {B R M A : Nat} {lv : Value} {e : List Bs} (h : EnAt w B R M A lv e) (hb : Below w.heap.size w w') : EnAt w' B R M A lv e := ⟨h.res.below hb, h.box.below hb, own_below h.row hb, h.set.below hb⟩
theorem endP_snoc (l : List Bs) (x : Bs) : endP (l ++ [x]) = endS (endP l) x := by unfold endP; rw [List.foldl_append]; rfl
theorem endP_len : ∀ l : List Bs, (endP l).length ≤ l.length := by
  have : ∀ (l e : List Bs), (l.foldl endS e).length ≤ e.length + l.length := by
    intro l
    induction l with
    | nil => intro e; simp
    | cons x r ih =>
      intro e
      refine Nat.le_trans (ih _) ?_
      unfold endS
      split <;> simp <;> omega
  intro l
  have := this l []
  unfold endP
  simpa using this
theorem endP_mem : ∀ (l : List Bs), ∀ x ∈ endP l, x ∈ l := by
  have : ∀ (l e : List Bs), ∀ x ∈ l.foldl endS e, x ∈ e ∨ x ∈ l := by
    intro l
    induction l with
    | nil => intro e x h; exact .inl h
    | cons y r ih =>
      intro e x h
      rcases ih _ x h with h1 | h1
      · unfold endS at h1
        split at h1
        · exact .inl h1
        · rcases List.mem_append.1 h1 with h2 | h2
          · exact .inl h2
          · right; simp at h2; simp [h2]
      · right; simp [h1]
  intro l x h
  rcases this l [] x h with h1 | h1
  · cases h1
  · exact h1
theorem SetAt.isMap {w : World} {M : Nat} {l : List Bs} (h : SetAt w M l) : ∃ es c, w.heap[M]? = some (.map es c) := by obtain ⟨D, ⟨es, c, hb, _⟩, _⟩ := h; exact ⟨es, c, hb⟩
theorem en_new (w : World) : EnAt (((w.alloc (.cells #[.slice none 0 0, .map none] 60)).alloc (.map #[] 0)).alloc (.cells #[.slice none 0 0, .map (some (w.heap.size + 1))] 60)) w.heap.size w.heap.size (w.heap.size + 1) (w.heap.size + 1 + 1) (.slice none 0 0) [] := by
  have h1 : Bx2 (w.alloc (.cells #[.slice none 0 0, .map none] 60)) w.heap.size (.slice none 0 0) (.map none) := heap_alloc_new w _
  have h2 := SetAt.made (w.alloc (.cells #[.slice none 0 0, .map none] 60))
  rw [World.size_alloc] at h2
  have h3 : Bx2 (((w.alloc (.cells #[.slice none 0 0, .map none] 60)).alloc (.map #[] 0)).alloc (.cells #[.slice none 0 0, .map (some (w.heap.size + 1))] 60)) (w.heap.size + 1 + 1) (.slice none 0 0) (.map (some (w.heap.size + 1))) := by
    have := heap_alloc_new ((w.alloc (.cells #[.slice none 0 0, .map none] 60)).alloc (.map #[] 0)) (.cells #[.slice none 0 0, .map (some (w.heap.size + 1))] 60)
    rw [World.size_alloc, World.size_alloc] at this
    exact this
  exact ⟨(h1.below ((Below.refl _ _).alloc (Nat.le_refl _) _)).below ((Below.refl _ _).alloc (Nat.le_refl _) _), h3, World.ownsRow_nil _ _ _ _, h2.below ((Below.refl _ _).alloc (Nat.le_refl _) _)⟩
/-- the set is written -/
theorem EnAt.putSet {w w' : World} {B R M A : Nat} {lv : Value} {e e' : List Bs} (h : EnAt w B R M A lv e) (hg : w.grownBy w' (some M)) (hs : SetAt w' M e') : Bx2 w' R (.slice none 0 0) (.map none) ∧ Bx2 w' A lv (.map (some M)) ∧ OwnS w' B lv e ∧ SetAt w' M e' := by
  obtain ⟨es, c, hM⟩ := h.set.isMap
  have ne : ∀ {k : Nat} {v0 v1 : Value}, Bx2 w k v0 v1 → k ≠ M := by
    rintro k v0 v1 hk rfl
    unfold Bx2 at hk
    rw [hM] at hk
    cases hk
  exact ⟨(hg.block R h.res.lt (fun e1 => ne h.res (Option.some.inj e1))).trans h.res, (hg.block A h.box.lt (fun e1 => ne h.box (Option.some.inj e1))).trans h.box, own_kept h.row (fun g hgg => hg.block g (own_lt h.row g hgg) (fun e1 => own_notmap h.row hM (e1 ▸ hgg))), hs⟩
theorem own_snoc {w : World} {B : Nat} {v : Value} {L : List Bs} {x : Bs} (h : w.ownsRow B 9 1 v (L.length + 1) (L.map sV ++ [sV x])) : OwnS w B v (L ++ [x]) := by
  unfold OwnS
  rw [List.length_append, List.map_append]
  exact h
theorem Bx2.grow {w w1 : World} {B A : Nat} {v0 v1 lv : Value} {e : List Bs} {tmp : Obj} (h : Bx2 w A v0 v1) (h3 : OwnS w B lv e) (hg : (w.alloc tmp).grownBy w1 lv.ownBlock) : Bx2 w1 A v0 v1 :=
  ((hg.block A (by have := h.lt; simp; omega) (fun e1 => own_block h3 h (by decide) e1.symm)).trans (Below.heap_alloc _ _ A h.lt)).trans h
/-- the list is written, and what comes of it is put into the box -/
theorem EnAt.putList {w w1 : World} {B R M A : Nat} {lv v' : Value} {e e' : List Bs} {tmp : Obj} (h1 : Bx2 w R (.slice none 0 0) (.map none)) (h2 : Bx2 w A lv (.map (some M))) (h3 : OwnS w B lv e) (h4 : SetAt w M e') (hRA : R ≠ A) (hg : (w.alloc tmp).grownBy w1 lv.ownBlock) (ho : OwnS w1 B v' e') :
    EnAt (w1.setCell ⟨A, 0, none⟩ v') B R M A v' e' := by
  obtain ⟨es, c, hM⟩ := h4.isMap
  have key : ∀ k, k < w.heap.size → lv.ownBlock ≠ some k → w1.heap[k]? = w.heap[k]? := fun k hk hn => (hg.block k (by simp; omega) (fun e1 => hn e1.symm)).trans (Below.heap_alloc _ _ k hk)
  have hA1 : Bx2 w1 A lv (.map (some M)) := (key A h2.lt (own_block h3 h2 (by decide))).trans h2
  have hMA : M ≠ A := by
    rintro rfl
    unfold Bx2 at h2
    rw [hM] at h2
    cases h2
  refine ⟨(set_other _ _ _ _ hRA).trans ((key R h1.lt (own_block h3 h1 (by decide))).trans h1), set_block hA1 0 _, own_kept ho (fun g hgg => set_other _ _ _ _ (fun e1 => own_block ho hA1 (by decide) (e1 ▸ hgg))), h4.block ?_⟩
  exact (set_other _ _ _ _ hMA).trans (key M h4.lt (own_notmap h3 hM))
set_option maxRecDepth 100000 in
set_option maxHeartbeats 2000000 in
theorem newEndings_some (L : List Bs) (b off cap : Nat) (w : World) (hl : L.length ≤ 100000000) (hb : b < w.heap.size) (hs : ∀ x ∈ L, x.length ≤ 1000000000) (hc : ∀ j, j < L.length → w.cell? ⟨b, off + j, none⟩ = some (sV (L.getD j []))) :
    Calls Tryd.prog 30 #[.slice (some ⟨b, off, none⟩) L.length cap] w fun r w' => ∃ lv M, r = .returned (.agg #[lv, .map (some M)]) ∧ OwnS w' w.heap.size lv (endP L) ∧ SetAt w' M (endP L) ∧ Below w.heap.size w w' := by
  obtain ⟨i0, hi, hz0, hz1, hz2⟩ := info_parts info9
  have hst := en_new w
  have hB0 : Below w.heap.size w (((w.alloc (.cells #[.slice none 0 0, .map none] 60)).alloc (.map #[] 0)).alloc (.cells #[.slice none 0 0, .map (some (w.heap.size + 1))] 60)) := below_alloc (below_alloc (below_alloc (Below.refl _ w) (Nat.le_refl _) _) (Nat.le_refl _) _) (Nat.le_refl _) _
  have mm := @run_makeMap Tryd.prog
  go_enter Tryd.func30, Tryd.ntmps30
  go_wp2
  clear mm
  generalize ((w.alloc (.cells #[.slice none 0 0, .map none] 60)).alloc (.map #[] 0)).alloc (.cells #[.slice none 0 0, .map (some (w.heap.size + 1))] 60) = w0 at hst hB0 ⊢
  obtain ⟨M, hM⟩ : ∃ M, M = w.heap.size + 1 := ⟨_, rfl⟩
  obtain ⟨A, hA⟩ : ∃ A, A = w.heap.size + 1 + 1 := ⟨_, rfl⟩
  have hRA : w.heap.size ≠ A := by omega
  have hBA : w.heap.size ≤ A := by omega
  have hBM : w.heap.size ≤ M := by omega
  rw [← hA, ← hM] at hst ⊢
  clear hM hA
  go_loopw [10] (fun i wr => ∃ (k : Nat) (lv : Value), k ≤ L.length ∧ i = .int .i64 k ∧ EnAt wr w.heap.size w.heap.size M A lv (endP (L.take k)) ∧ Below w.heap.size w wr) (fun i _ => L.length - (intOf i).toNat)
  case atStart => exact ⟨0, _, Nat.zero_le _, rfl, hst, hB0⟩
  case round =>
    clear hst hB0
    obtain ⟨k, lv, hk, rfl, hE, hB⟩ := hrel
    obtain ⟨la, lc, rfl⟩ := own_len hE.row
    have hB0 := hE.box.c0
    have hB1 := hE.box.c1
    by_cases hlt : k < L.length
    · have cc := (hB.cell (p := ⟨b, off + k, none⟩) hb).trans (hc k hlt)
      have hmem : L.getD k [] ∈ L := by rw [List.getD_eq_getElem?_getD, List.getElem?_eq_getElem hlt]; exact List.getElem_mem hlt
      have hx := hs _ hmem
      have HT : Hid (endS (endP (L.take k)) (L.getD k []) = endP (L.take (k + 1))) := by
        show _ = _
        rw [List.take_succ_eq_append_getElem hlt, endP_snoc, List.getD_eq_getElem?_getD, List.getElem?_eq_getElem hlt]
        rfl
      have hen : (endP (L.take k)).length ≤ k := Nat.le_trans (endP_len _) (by rw [List.length_take]; omega)
      generalize L.getD k [] = x at cc hx HT
      have hsz := hB.size
      have kH := have_any (.slice la (endP (L.take k)).length lc) M (endP (L.take k)) x wr ⟨_, _, _, rfl⟩ hE.set hx
      have HC := hide' hc
      have HS := hide' hs
      have HBB := hide' hb
      generalize endP (L.take k) = e at hE kH HT hen hB0
      clear hc hs hb hmem
      cases hh : hasB e x with
      | true =>
        rw [hh] at kH
        have HT' : Hid (e = endP (L.take (k + 1))) := by
          have := HT.out
          unfold endS at this
          rw [hh, if_pos rfl] at this
          exact this
        have HE := hide' hE
        have HB := hide' hB
        clear hE hB HT hh
        go_wp2_with fail
        refine kH.mono ?_
        rintro r w1 ⟨rfl, hb1⟩
        have hE1 : EnAt w1 w.heap.size w.heap.size M A _ (endP (L.take (k + 1))) := HT'.out ▸ HE.out.below hb1
        have hB1' := HB.out.trans (hb1.mono HB.out.size)
        have HE1 := hide' hE1
        clear hE1 kH hb1
        go_wp2
        exact ⟨⟨k + 1, _, by omega, by go_num, HE1.out, hB1'⟩, by simp [intOf]; omega⟩
      | false =>
        rw [hh] at kH
        have HT' : Hid (e ++ [x] = endP (L.take (k + 1))) := by
          have := HT.out
          unfold endS at this
          rw [hh] at this
          exact this
        have HE := hide' hE
        have HB := hide' hB
        clear hE hB HT hh
        go_wp2_with fail
        refine kH.mono ?_
        rintro r w1 ⟨rfl, hb1⟩
        have hE1 := HE.out.below hb1
        have hB1' := HB.out.trans (hb1.mono HB.out.size)
        have d1 := hE1.box.c1
        obtain ⟨w2, hr, hS2, hg2⟩ := hE1.set.put (by omega) x (by unfold maxLen; omega)
        obtain ⟨p1, p2, p3, p4⟩ := hE1.putSet hg2 hS2
        have hBw2 := hB1'.grown hg2 hB1'.size (fun j hj => by cases hj; exact hBM)
        have HP := hide' (And.intro p1 (And.intro p2 (And.intro p3 p4)))
        have q0 := p2.c0
        have z0 := p2.fz 0
        have hw2 := hBw2.size
        have HB2 := hide' hBw2
        clear kH hb1 hE1 hS2 hg2 p1 p2 p4 HE HB hB1' hBw2
        go_wp2_with (first | (at_mapUpdate; refine wpList_upd rfl _ _ _ 58 rfl hr ?_) | (at_builtin; refine wpList_append_own _ rfl _ _ 25 rfl w.heap.size 9 i0 (.string ⟨#[]⟩) 1 16 Tryd.underlying25 hi hz0 hz1 hz2 rfl (by decide) _ _ _ rfl (p3.alloc _) ⟨w2.heap.size, 0, none⟩ 1 1 [sV x] rfl rfl (cell_one_new _ _ _) (by simp [Value.oneCell']) (by unfold maxLen; omega) (by omega) (by simp; omega) ?_; intro v' w4 hown' hgrow hif; clear hif; obtain ⟨a2, c3, rfl⟩ := row_form hown'; have hA4 := Bx2.grow HP.out.2.1 HP.out.2.2.1 hgrow; have y4 := hA4.c0; have z4 := hA4.fz 0; have hE5 := EnAt.putList (v' := .slice a2 (e.length + 1) c3) (e' := e ++ [x]) HP.out.1 HP.out.2.1 HP.out.2.2.1 HP.out.2.2.2 hRA hgrow (own_snoc hown'); have hB5 := ((HB2.out.alloc hw2 _).grown hgrow (by simp; omega) (fun j ej => own_low HP.out.2.2.1 j ej)).setCell (p := ⟨A, 0, none⟩) hBA (.slice a2 (e.length + 1) c3); have HE5 := hide' hE5; have HB5 := hide' hB5; clear hown' hgrow hA4 hE5 hB5))
        exact ⟨⟨k + 1, _, by omega, by go_num, HT'.out ▸ HE5.out, HB5.out⟩, by simp [intOf]; omega⟩
    · have hke : L.take k = L := List.take_of_length_le (by omega)
      rw [hke] at hE hB0
      have HE := hide' hE
      have r0 := hE.res.c0
      have r1 := hE.res.c1
      have rz0 := hE.res.fz 0
      have rz1 := hE.res.fz 1
      have hAR : (⟨A, 0, none⟩ : Addr).block ≠ w.heap.size := fun e1 => hRA e1.symm
      have HB := hide' hB
      have HK := hide' hke
      clear hE hke hB hc hs hb
      go_wp2
      have hF : Bx2 ((wr.setCell ⟨w.heap.size, 0, none⟩ (.slice la (endP L).length lc)).setCell ⟨w.heap.size, 1, none⟩ (.map (some M))) w.heap.size (.slice la (endP L).length lc) (.map (some M)) := set_block (set_block HE.out.res 0 _) 1 _
      have hBF : Below w.heap.size w ((wr.setCell ⟨w.heap.size, 0, none⟩ (.slice la (endP L).length lc)).setCell ⟨w.heap.size, 1, none⟩ (.map (some M))) := (HB.out.setCell (Nat.le_refl _) _).setCell (Nat.le_refl _) _
      have hR0 : Bx2 (wr.setCell ⟨w.heap.size, 0, none⟩ (.slice la (endP L).length lc)) w.heap.size (.slice la (endP L).length lc) (.map none) := set_block HE.out.res 0 _
      have hrow := own_set (own_set HE.out.row HE.out.res (by decide) 0 (.slice la (endP L).length lc)) hR0 (by decide) 1 (.map (some M))
      have hset : SetAt ((wr.setCell ⟨w.heap.size, 0, none⟩ (.slice la (endP L).length lc)).setCell ⟨w.heap.size, 1, none⟩ (.map (some M))) M (endP L) := by
        obtain ⟨es, c, hM⟩ := HE.out.set.isMap
        have hMR : M ≠ w.heap.size := by
          rintro e1
          have := HE.out.res
          unfold Bx2 at this
          rw [← e1, hM] at this
          cases this
        exact HE.out.set.block ((set_other _ _ _ _ hMR).trans (set_other _ _ _ _ hMR))
      generalize (wr.setCell ⟨w.heap.size, 0, none⟩ (.slice la (endP L).length lc)).setCell ⟨w.heap.size, 1, none⟩ (.map (some M)) = W at hF hBF hrow hset ⊢
      clear r0 r1 rz0 rz1 hB0 hB1 HB HE hR0
      have e0 := hF.c0
      have e1 := hF.c1
      refine bodyPost_ret (by simp [results, Tryd.results30, go_sem, e0, e1]; rfl) rfl ?_
      exact ⟨_, _, rfl, hrow, hset, hBF⟩
set_option maxRecDepth 100000 in
set_option maxHeartbeats 2000000 in
theorem newEndings_nil (a : Option Addr) (cap : Nat) (w : World) :
    Calls Tryd.prog 30 #[.slice a 0 cap] w fun r w' => ∃ lv M, r = .returned (.agg #[lv, .map (some M)]) ∧ OwnS w' w.heap.size lv (endP []) ∧ SetAt w' M (endP []) ∧ Below w.heap.size w w' := by
  have hst := en_new w
  have hB0 : Below w.heap.size w (((w.alloc (.cells #[.slice none 0 0, .map none] 60)).alloc (.map #[] 0)).alloc (.cells #[.slice none 0 0, .map (some (w.heap.size + 1))] 60)) := below_alloc (below_alloc (below_alloc (Below.refl _ w) (Nat.le_refl _) _) (Nat.le_refl _) _) (Nat.le_refl _) _
  have mm := @run_makeMap Tryd.prog
  go_enter Tryd.func30, Tryd.ntmps30
  go_wp2
  clear mm
  generalize ((w.alloc (.cells #[.slice none 0 0, .map none] 60)).alloc (.map #[] 0)).alloc (.cells #[.slice none 0 0, .map (some (w.heap.size + 1))] 60) = w0 at hst hB0 ⊢
  obtain ⟨M, hM⟩ : ∃ M, M = w.heap.size + 1 := ⟨_, rfl⟩
  obtain ⟨A, hA⟩ : ∃ A, A = w.heap.size + 1 + 1 := ⟨_, rfl⟩
  have hRA : w.heap.size ≠ A := by omega
  rw [← hA, ← hM] at hst ⊢
  clear hM hA
  go_loopw [10] (fun i wr => i = .int .i64 0 ∧ wr = w0) (fun _ _ => 0)
  case atStart => exact ⟨rfl, rfl⟩
  case round =>
    obtain ⟨rfl, rfl⟩ := hrel
    have HE := hide' hst
    have hB0' := hst.box.c0
    have hB1 := hst.box.c1
    have r0 := hst.res.c0
    have r1 := hst.res.c1
    have rz0 := hst.res.fz 0
    have rz1 := hst.res.fz 1
    have hAR : A ≠ w.heap.size := fun e1 => hRA e1.symm
    have HB := hide' hB0
    clear hst hB0
    go_wp2
    have hF : Bx2 ((wr.setCell ⟨w.heap.size, 0, none⟩ (.slice none 0 0)).setCell ⟨w.heap.size, 1, none⟩ (.map (some M))) w.heap.size (.slice none 0 0) (.map (some M)) := set_block (set_block HE.out.res 0 _) 1 _
    have hBF : Below w.heap.size w ((wr.setCell ⟨w.heap.size, 0, none⟩ (.slice none 0 0)).setCell ⟨w.heap.size, 1, none⟩ (.map (some M))) := (HB.out.setCell (Nat.le_refl _) _).setCell (Nat.le_refl _) _
    have hset : SetAt ((wr.setCell ⟨w.heap.size, 0, none⟩ (.slice none 0 0)).setCell ⟨w.heap.size, 1, none⟩ (.map (some M))) M (endP []) := by
      obtain ⟨es, c, hM⟩ := HE.out.set.isMap
      have hMR : M ≠ w.heap.size := by
        rintro e1
        have := HE.out.res
        unfold Bx2 at this
        rw [← e1, hM] at this
        cases this
      exact HE.out.set.block ((set_other _ _ _ _ hMR).trans (set_other _ _ _ _ hMR))
    generalize (wr.setCell ⟨w.heap.size, 0, none⟩ (.slice none 0 0)).setCell ⟨w.heap.size, 1, none⟩ (.map (some M)) = W at hF hBF hset ⊢
    clear r0 r1 rz0 rz1 hB0' hB1 HB HE
    have e0 := hF.c0
    have e1 := hF.c1
    refine bodyPost_ret (by simp [results, Tryd.results30, go_sem, e0, e1]; rfl) rfl ?_
    exact ⟨_, _, rfl, World.ownsRow_nil _ _ _ _, hset, hBF⟩
theorem newEndings_any (L : List Bs) (v : Value) (w : World) (hl : L.length ≤ 100000000) (hs : ∀ x ∈ L, x.length ≤ 1000000000) (h : Strs w v L) :
    Calls Tryd.prog 30 #[v] w fun r w' => ∃ lv M, r = .returned (.agg #[lv, .map (some M)]) ∧ OwnS w' w.heap.size lv (endP L) ∧ SetAt w' M (endP L) ∧ Below w.heap.size w w' := by
  rcases h with ⟨a, c, rfl, rfl⟩ | ⟨b, off, cap, rfl, h3, h4⟩
  · exact newEndings_nil a c w
  · exact newEndings_some L b off cap w hl h3 hs h4
end Go.Proofs.YtkmedgdpcifnoaaDoor
