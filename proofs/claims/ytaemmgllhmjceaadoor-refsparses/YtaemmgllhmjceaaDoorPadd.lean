/- The contract of (*refs.parts).add. -/
import Derived.Test.YtaemmgllhmjceaaDoorPall
namespace Go.Proofs.YtaemmgllhmjceaaDoor
open Go.RowKit

theorem wpAnyX_two {P : Program} {md : Region.Mode} {ops : Array Oper} {Q : Exit → Act → World → Prop} {C : World → Prop} {X : List Nat} {i j : Nat} {fuel : Nat} {listed : Array Bool} {a : Act} {w : World} (hr : Region.ready md ops listed = [i, j]) (h : wpOp P ops Q i (fun a' w' => (X.contains i = false → C w') ∧ wpAnyX P md ops C X Q fuel (listed.setIfInBounds i true) a' w') a w) (h' : wpOp P ops Q j (fun a' w' => (X.contains j = false → C w') ∧ wpAnyX P md ops C X Q fuel (listed.setIfInBounds j true) a' w') a w) : wpAnyX P md ops C X Q (fuel + 1) listed a w :=
  ⟨fun h0 => absurd (hr ▸ h0) (by simp), fun k hk => by
    rw [hr] at hk
    rcases List.mem_cons.1 hk with rfl | hk
    · exact h
    · rw [List.mem_singleton] at hk; subst hk; exact h'⟩
structure AdC (b : Nat) (k : Int) (t n : ByteArray) (a : Value) (w : World) : Prop where
  c0 : w.cell? ⟨b, 0, none⟩ = some (.int .i64 k)
  c1 : w.cell? ⟨b, 1, none⟩ = some (.string t)
  c2 : w.cell? ⟨b, 2, none⟩ = some (.string n)
  c3 : w.cell? ⟨b, 3, none⟩ = some a
theorem Bx4.adc {w : World} {b : Nat} {k : Int} {t n : ByteArray} {a : Value} (h : Bx4 w b k t n a) : AdC b k t n a w := ⟨h.c0, h.c1, h.c2, h.c3⟩
theorem AdC.of_block {w w' : World} {b : Nat} {k : Int} {t n : ByteArray} {a : Value} (h : AdC b k t n a w) (e : w'.heap[b]? = w.heap[b]?) : AdC b k t n a w' :=
  ⟨(World.cell?_of_block (a := ⟨b, 0, none⟩) e).trans h.c0, (World.cell?_of_block (a := ⟨b, 1, none⟩) e).trans h.c1, (World.cell?_of_block (a := ⟨b, 2, none⟩) e).trans h.c2, (World.cell?_of_block (a := ⟨b, 3, none⟩) e).trans h.c3⟩
/-- a row that lies in w is kept by all's turn -/
theorem PsAt.keepL {w w' : World} {A B : Nat} {L : List Px} {row : Bs} {lv rv : Value} (h : PsAt w A B L row lv rv) (ht : Turn (nestS A lv) w w') {B' e size n : Nat} {v : Value} {xs : List Value} (hr : w.ownsRow B' e size v n xs) (h30 : e ≠ 30) (h45 : e ≠ 45) : w'.ownsRow B' e size v n xs :=
  own_kept hr fun g hg => ht.block g (own_lt hr g hg) fun hs => by
    rcases hs with rfl | hs
    · exact own_block hr h.blk (Ne.symm h45) hg
    · exact own_apart h.list hr (Ne.symm h30) hs hg
theorem flL_len (L : List Px) (row : Bs) : (flL L row).length ≤ L.length + 1 := by unfold flL; split <;> simp
set_option maxRecDepth 100000 in
set_option maxHeartbeats 4000000 in
theorem add_any (w : World) (A B : Nat) (L : List Px) (row : Bs) (lv rv : Value) (h : PsAt w A B L row lv rv) (hf : row.length ≤ 1000000) (hL : L.length ≤ 1000000) (x : Px) (hx : ArgV w B x) :
    Calls Tryd.prog 22 #[.pointer (some ⟨A, 0, none⟩), ptV x.1 x.2] w fun e w' => e = .returned (.tuple #[]) ∧ Turn (nestS A lv) w w' ∧ ∃ lv' rv', PsAt w' A B (flL L row ++ [x]) [] lv' rv' := by
  obtain ⟨inf, hi, hz0, hz1, hz2⟩ := info_parts info30
  obtain ⟨pt, av⟩ := x
  obtain ⟨a0, ac, hav⟩ := own_len hx
  obtain ⟨k, pt0, pn, pa⟩ := pt
  simp only at hav hx
  subst hav
  have hlt := h.lt
  have hlow := h.low
  have hflen := flL_len L row
  have hptc : ptC (⟨k, pt0, pn, pa⟩, .slice a0 pa.length ac) = [.int .i64 k, .string (mk pt0), .string (mk pn), .slice a0 pa.length ac] := rfl
  show Calls Tryd.prog 22 #[.pointer (some ⟨A, 0, none⟩), .agg #[.int .i64 k, .string (mk pt0), .string (mk pn), .slice a0 pa.length ac]] w _
  generalize hT : mk pt0 = T at hptc
  generalize hM : mk pn = M at hptc
  have hb0 : Below w.heap.size w (w.alloc (.cells #[.int .i64 k, .string T, .string M, .slice a0 pa.length ac] 30)) := (Below.refl _ w).alloc (Nat.le_refl _) _
  have hbx : Bx4 (w.alloc (.cells #[.int .i64 k, .string T, .string M, .slice a0 pa.length ac] 30)) w.heap.size k T M (.slice a0 pa.length ac) := heap_alloc_new w _
  have hs0 : (w.alloc (.cells #[.int .i64 k, .string T, .string M, .slice a0 pa.length ac] 30)).heap.size = w.heap.size + 1 := by simp
  generalize hW0 : w.alloc (.cells #[.int .i64 k, .string T, .string M, .slice a0 pa.length ac] 30) = W0 at hb0 hbx hs0
  have HW0 := hide' hW0
  have HP := hide' hptc
  have hbd : Below W0.heap.size W0 W0.drew := ⟨rfl, rfl, rfl, Nat.le_refl _, fun _ _ => rfl⟩
  have h1 : PsAt W0.drew A B L row lv rv := (h.below hb0).below hbd
  have hx1 : ArgV W0.drew B (⟨k, pt0, pn, pa⟩, .slice a0 pa.length ac) := own_below (own_below hx hb0) hbd
  have hbx1 : Bx4 W0.drew w.heap.size k T M (.slice a0 pa.length ac) := hbx.below hbd
  have hC1 := hbx1.adc
  -- the box is none of what all turns
  have hnb : ¬ nestS A lv w.heap.size := fun hs => by
    rcases hs with e | e
    · omega
    · have := own_lt h.list _ e; omega
  have H := hide' h
  have H1 := hide' h1
  have HX1 := hide' hx1
  have HB := hide' hbx1
  clear h h1 hx1 hbx1 hbx hx hptc hW0
  go_enter Tryd.func22, Tryd.ntmps22
  go_upto_region 1 with fail
  rw [HW0.out]
  refine wp_region_classX [6, 7, 8] (C := AdC w.heap.size k T M (.slice a0 pa.length ac)) (by kernel_rfl) ?_
  (refine wpAnyX_take (i := 0) (v := ?_) hC1 rfl (by kernel_rfl) (by kernel_rfl) (by kernel_rfl) (by kernel_rfl) (fun _ _ _ h => h) (Or.inl ⟨by kernel_rfl, ?_⟩) ?_; rotate_left; (intro w hc; have k0 := hc.c0; have k1 := hc.c1; have k2 := hc.c2; have k3 := hc.c3; clear hc; go_simp; try with_reducible rfl))
  (refine wpAnyX_take (i := 1) (v := ?_) hC1 rfl (by kernel_rfl) (by kernel_rfl) (by kernel_rfl) (by kernel_rfl) (fun _ _ _ h => h) (Or.inl ⟨by kernel_rfl, ?_⟩) ?_; rotate_left; (intro w hc; have k0 := hc.c0; have k1 := hc.c1; have k2 := hc.c2; have k3 := hc.c3; clear hc; go_simp; try with_reducible rfl))
  (refine wpAnyX_take (i := 3) (v := ?_) hC1 rfl (by kernel_rfl) (by kernel_rfl) (by kernel_rfl) (by kernel_rfl) (fun _ _ _ h => h) (Or.inl ⟨by kernel_rfl, ?_⟩) ?_; rotate_left; (intro w hc; have k0 := hc.c0; have k1 := hc.c1; have k2 := hc.c2; have k3 := hc.c3; clear hc; go_simp; try with_reducible rfl))
  go_simp
  refine wpAnyX_two (i := 2) (j := 4) (by kernel_rfl) (wpOp_wanted rfl (by rfl) ?_) (wpOp_wanted rfl (by rfl) ?_)
  · have kA := all_any W0.drew A B L row lv rv H1.out hf hL
    go_simp
    refine kA.mono ?_
    rintro e w2 ⟨lv', rv', rfl, ht, hp2, hlo0⟩
    have hsz2 := ht.size
    have hW0d : W0.drew.heap.size = w.heap.size + 1 := hs0
    obtain ⟨la, lc, rfl⟩ := own_len hp2.list
    have hC2 := hC1.of_block (w' := w2) (ht.block _ (by omega) hnb)
    refine ⟨hC2, ?_⟩
    refine wpAnyX_one (i := 4) (by kernel_rfl) (wpOp_wanted rfl (by rfl) ?_)
    go_simp
    have hb3 : Below w2.heap.size w2 (w2.alloc (.cells #[.int .i64 k, .string T, .string M, .slice a0 pa.length ac] 30)) := (Below.refl _ w2).alloc (Nat.le_refl _) _
    have hnew := new_four w2 k T M (.slice a0 pa.length ac) 30
    obtain ⟨tb, htb⟩ : ∃ tb, tb = w2.heap.size := ⟨_, rfl⟩
    rw [← htb] at hnew
    generalize hW3 : w2.alloc (.cells #[.int .i64 k, .string T, .string M, .slice a0 pa.length ac] 30) = W3 at hb3 hnew
    have hlt3 : w.heap.size < W3.heap.size := by have := hb3.size; omega
    have hp3 := hp2.below hb3
    have hx3 : ArgV W3 B (⟨k, pt0, pn, pa⟩, .slice a0 pa.length ac) := own_below (H1.out.keepL ht HX1.out (by decide) (by decide)) hb3
    have hC3 := hC2.of_block (w' := W3) (hb3.block _ (by omega))
    have ht3 : Turn (nestS A lv) w W3 := (((Turn.of_below (S := nestS A lv) (hb0.trans (hbd.mono hb0.size))).trans ht fun _ hi => .inl hi).trans (Turn.of_below (S := fun _ => False) hb3) fun _ hi => hi.elim)
    have hlo : ∀ i, (Value.slice la (flL L row).length lc).ownBlock = some i → lv.ownBlock = some i ∨ w.heap.size + 1 ≤ i := fun i hi => by
      rcases hlo0 i hi with h | h
      · exact .inl h
      · exact .inr (by omega)
    rw [← htb]
    refine ⟨hC3, ?_⟩
    · skip
      have hown : W3.ownsRow B 30 4 (.slice la (flL L row).length lc) (flL L row).length (flatP (flL L row)) := hp3.list
      refine wpAnyX_one (i := 5) (by kernel_rfl) (wpOp_wanted rfl (by rfl) ?_)
      refine wp_append_lies _ _ _ 23 rfl B 30 inf _ 4 64 Tryd.underlying23 hi hz0 hz1 hz2 rfl (by decide) (.slice la (flL L row).length lc) (flL L row).length (flatP (flL L row)) rfl hown ⟨tb, 0, none⟩ 1 1 [.int .i64 k, .string T, .string M, .slice a0 pa.length ac] rfl rfl hnew (by simp [Value.oneCell']) (by decide) (by unfold maxLen; omega) (by omega) (by have := hp3.lt; omega) _ rfl ?_
      intro g2 cap2 w4 ho hg hat hlt2
      have hend := hp3.putList (x := (⟨k, pt0, pn, pa⟩, .slice a0 pa.length ac)) (Below.refl _ _) hg (by rw [HP.out]; exact ho) hx3
      have f6 := Lib.frozen_of_heap hend.2.2 0
      have e6 : w4.cell? ⟨A, 0, none⟩ = some (.slice la (flL L row).length lc) := by rw [Lib.cell_of_heap hend.2.2]; rfl
      have hfin : Turn (nestS A lv) w (w4.setCell ⟨A, 0, none⟩ (.slice (some ⟨g2, 0, none⟩) ((flL L row).length + 1) cap2)) := by
        refine ht3.trans hend.2.1 fun i hi => ?_
        rcases hi with rfl | hi
        · exact .inl (.inl rfl)
        · rcases hlo i hi with h | h
          · exact .inl (.inr h)
          · exact .inr (by omega)
      refine ⟨fun _ => hC3.of_block (hg.block _ hlt3 (fun e => by
        rcases hlo _ e.symm with h | h
        · exact hnb (.inr h)
        · omega)), ?_⟩
      have HE := hide' hend.1
      have HF := hide' hfin
      clear hend hg ho hat hown hfin hp3 hx3 hnew hC3 ht3 hlo
      refine wpAnyX_one (i := 6) (by kernel_rfl) (wpOp_wanted rfl (by rfl) ?_)
      go_simp
      refine wpAnyX_one (i := 7) (by kernel_rfl) (wpOp_wanted rfl (by rfl) ?_)
      go_simp
      refine wpAnyX_one (i := 8) (by kernel_rfl) (wpOp_wanted rfl (by rfl) ?_)
      go_simp
      refine wpAnyX_done (by kernel_rfl) ?_ _
      go_wp2
      go_end0
      exact ⟨rfl, HF.out, _, _, HE.out⟩
  · go_simp
    have hb3 : Below W0.heap.size W0 (W0.alloc (.cells #[.int .i64 k, .string T, .string M, .slice a0 pa.length ac] 30)).drew := ((Below.refl _ W0).alloc (Nat.le_refl _) _).trans ⟨rfl, rfl, rfl, Nat.le_refl _, fun _ _ => rfl⟩
    have hnew0 : ∀ j u, [Value.int .i64 k, .string T, .string M, .slice a0 pa.length ac][j]? = some u → (W0.alloc (.cells #[.int .i64 k, .string T, .string M, .slice a0 pa.length ac] 30)).drew.cell? ((⟨W0.heap.size, 0, none⟩ : Addr).add j) = some u := new_four W0 k T M (.slice a0 pa.length ac) 30
    have hs5 : (W0.alloc (.cells #[.int .i64 k, .string T, .string M, .slice a0 pa.length ac] 30)).drew.heap.size = w.heap.size + 2 := by simp [hs0]
    have hp5 : PsAt (W0.alloc (.cells #[.int .i64 k, .string T, .string M, .slice a0 pa.length ac] 30)).drew A B L row lv rv := (H.out.below hb0).below hb3
    have hC5 : AdC w.heap.size k T M (.slice a0 pa.length ac) (W0.alloc (.cells #[.int .i64 k, .string T, .string M, .slice a0 pa.length ac] 30)).drew := hC1.of_block (hb3.block _ (by omega))
    have hx5 : ArgV (W0.alloc (.cells #[.int .i64 k, .string T, .string M, .slice a0 pa.length ac] 30)).drew B (⟨k, pt0, pn, pa⟩, .slice a0 pa.length ac) := own_below (show ArgV W0 B _ from HX1.out) hb3
    generalize hW5 : (W0.alloc (.cells #[.int .i64 k, .string T, .string M, .slice a0 pa.length ac] 30)).drew = W5 at hb3 hnew0 hs5 hp5 hC5 hx5
    refine ⟨hC5, ?_⟩
    have kA := all_any W5 A B L row lv rv hp5 hf hL
    refine wpAnyX_one (i := 2) (by kernel_rfl) (wpOp_wanted rfl (by rfl) ?_)
    go_simp
    refine kA.mono ?_
    rintro e W3 ⟨lv', rv', rfl, ht, hp3, hlo0⟩
    have hsz2 := ht.size
    obtain ⟨la, lc, rfl⟩ := own_len hp3.list
    have hC3 := hC5.of_block (w' := W3) (ht.block _ (by omega) hnb)
    have hlt3 : w.heap.size < W3.heap.size := by omega
    have hx3 : ArgV W3 B (⟨k, pt0, pn, pa⟩, .slice a0 pa.length ac) := hp5.keepL ht hx5 (by decide) (by decide)
    have hnb2 : ¬ nestS A lv W0.heap.size := fun hs => by
      rcases hs with e | e
      · omega
      · have := own_lt H.out.list _ e; omega
    have hnew : ∀ j u, [Value.int .i64 k, .string T, .string M, .slice a0 pa.length ac][j]? = some u → W3.cell? ((⟨W0.heap.size, 0, none⟩ : Addr).add j) = some u := fun j u hj => (World.cell?_of_block (a := (⟨W0.heap.size, 0, none⟩ : Addr).add j) (by rw [add_zero]; exact ht.block W0.heap.size (by omega) hnb2)).trans (hnew0 j u hj)
    obtain ⟨tb, htb⟩ : ∃ tb, tb = w.heap.size + 1 := ⟨_, rfl⟩
    rw [hs0, ← htb] at hnew
    have ht3 : Turn (nestS A lv) w W3 := ((Turn.of_below (S := nestS A lv) (hb0.trans (hb3.mono hb0.size))).trans ht fun _ hi => .inl hi)
    have hlo : ∀ i, (Value.slice la (flL L row).length lc).ownBlock = some i → lv.ownBlock = some i ∨ w.heap.size + 1 ≤ i := fun i hi => by
      rcases hlo0 i hi with h | h
      · exact .inl h
      · exact .inr (by omega)
    rw [← htb]
    refine ⟨hC3, ?_⟩
    · skip
      have hown : W3.ownsRow B 30 4 (.slice la (flL L row).length lc) (flL L row).length (flatP (flL L row)) := hp3.list
      refine wpAnyX_one (i := 5) (by kernel_rfl) (wpOp_wanted rfl (by rfl) ?_)
      refine wp_append_lies _ _ _ 23 rfl B 30 inf _ 4 64 Tryd.underlying23 hi hz0 hz1 hz2 rfl (by decide) (.slice la (flL L row).length lc) (flL L row).length (flatP (flL L row)) rfl hown ⟨tb, 0, none⟩ 1 1 [.int .i64 k, .string T, .string M, .slice a0 pa.length ac] rfl rfl hnew (by simp [Value.oneCell']) (by decide) (by unfold maxLen; omega) (by omega) (by have := hp3.lt; omega) _ rfl ?_
      intro g2 cap2 w4 ho hg hat hlt2
      have hend := hp3.putList (x := (⟨k, pt0, pn, pa⟩, .slice a0 pa.length ac)) (Below.refl _ _) hg (by rw [HP.out]; exact ho) hx3
      have f6 := Lib.frozen_of_heap hend.2.2 0
      have e6 : w4.cell? ⟨A, 0, none⟩ = some (.slice la (flL L row).length lc) := by rw [Lib.cell_of_heap hend.2.2]; rfl
      have hfin : Turn (nestS A lv) w (w4.setCell ⟨A, 0, none⟩ (.slice (some ⟨g2, 0, none⟩) ((flL L row).length + 1) cap2)) := by
        refine ht3.trans hend.2.1 fun i hi => ?_
        rcases hi with rfl | hi
        · exact .inl (.inl rfl)
        · rcases hlo i hi with h | h
          · exact .inl (.inr h)
          · exact .inr (by omega)
      refine ⟨fun _ => hC3.of_block (hg.block _ hlt3 (fun e => by
        rcases hlo _ e.symm with h | h
        · exact hnb (.inr h)
        · omega)), ?_⟩
      have HE := hide' hend.1
      have HF := hide' hfin
      clear hend hg ho hat hown hfin hp3 hx3 hnew hC3 ht3 hlo
      refine wpAnyX_one (i := 6) (by kernel_rfl) (wpOp_wanted rfl (by rfl) ?_)
      go_simp
      refine wpAnyX_one (i := 7) (by kernel_rfl) (wpOp_wanted rfl (by rfl) ?_)
      go_simp
      refine wpAnyX_one (i := 8) (by kernel_rfl) (wpOp_wanted rfl (by rfl) ?_)
      go_simp
      refine wpAnyX_done (by kernel_rfl) ?_ _
      go_wp2
      go_end0
      exact ⟨rfl, HF.out, _, _, HE.out⟩
end Go.Proofs.YtaemmgllhmjceaaDoor
