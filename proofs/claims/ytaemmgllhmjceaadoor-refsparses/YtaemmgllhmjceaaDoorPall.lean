/- The contract of (*refs.parts).all. -/
import Derived.Test.YtaemmgllhmjceaaDoorPs
import Derived.Deep.Cut
namespace Go.Proofs.YtaemmgllhmjceaaDoor
open Go.RowKit

/-- bytes that are a part -/
def byP (row : Bs) : Px := (⟨1, row, [], []⟩, .slice none 0 0)
/-- the bytes at the end made a part -/
def flL (L : List Px) (row : Bs) : List Px := if row = [] then L else L ++ [byP row]
structure AlC (A : Nat) (lv rv : Value) (t : ByteArray) (w : World) : Prop where
  c0 : w.cell? ⟨A, 0, none⟩ = some lv
  c1 : w.cell? ⟨A, 1, none⟩ = some rv
  cv : (convert 43 9 rv).run Tryd.prog w = .ok (.string t) w
theorem turn_set {S : Nat → Prop} (w : World) (A j : Nat) (v : Value) (h : S A) : Turn S w (w.setCell ⟨A, j, none⟩ v) :=
  ⟨rfl, rfl, rfl, Nat.le_of_eq (by simp), fun k _ hn => set_other _ _ _ _ (fun e => hn (e ▸ h))⟩
theorem new_four (W : World) (k : Int) (x y : ByteArray) (v : Value) (t : TypeId) : ∀ j u, [Value.int .i64 k, .string x, .string y, v][j]? = some u → (W.alloc (.cells #[.int .i64 k, .string x, .string y, v] t)).cell? ((⟨W.heap.size, 0, none⟩ : Addr).add j) = some u := by
  intro j u hj
  rw [Addr.add_lit, Nat.zero_add, Lib.cell_of_heap (heap_alloc_new W _)]
  match j, hj with
  | 0, hj => exact hj
  | 1, hj => exact hj
  | 2, hj => exact hj
  | 3, hj => exact hj
set_option maxRecDepth 100000 in
set_option maxHeartbeats 2000000 in
theorem all_any (w : World) (A B : Nat) (L : List Px) (row : Bs) (lv rv : Value) (h : PsAt w A B L row lv rv) (hf : row.length ≤ 1000000) (hL : L.length ≤ 1000000) :
    Calls Tryd.prog 25 #[.pointer (some ⟨A, 0, none⟩)] w fun e w' => ∃ lv' rv', e = .returned lv' ∧ Turn (nestS A lv) w w' ∧ PsAt w' A B (flL L row) [] lv' rv' ∧ ∀ i, lv'.ownBlock = some i → lv.ownBlock = some i ∨ w.heap.size ≤ i := by
  obtain ⟨la, lc, rfl⟩ := own_len h.list
  cases row with
  | nil =>
    obtain ⟨a, cp, rfl⟩ := own_len h.row
    have k0 := h.c0
    have k1 := h.c1
    have H := hide' h
    clear h
    go_enter Tryd.func25, Tryd.ntmps25
    go_wp2
    go_ret
    exact ⟨_, _, rfl, Turn.refl _ _, H.out, fun i hi => .inl hi⟩
  | cons c r =>
    obtain ⟨inf, hi, hz0, hz1, hz2⟩ := info_parts info30
    obtain ⟨g, cap, rfl, hrow0⟩ := row_none h.row
    have hlt := h.lt
    have hlow := h.low
    have hne : c :: r ≠ [] := by simp
    have hn : (0 : Int) < (r.length : Int) + 1 := by omega
    generalize hrw : (c :: r : Bs) = row at h hne hf
    have hfl : flL L row = L ++ [byP row] := by unfold flL; rw [if_neg hne]
    rw [hfl]
    have hC : ∀ W, Below w.heap.size w W → AlC A (.slice la L.length lc) (.slice (some ⟨g, 0, none⟩) (r.length + 1) cap) (mk row) W := fun W hb => ⟨(hb.cell (p := ⟨A, 0, none⟩) hlt).trans h.c0, (hb.cell (p := ⟨A, 1, none⟩) hlt).trans h.c1, row_str (own_below h.row hb) hne⟩
    have k0 := h.c0
    have k1 := h.c1
    have hbd : Below w.heap.size w w.drew := ⟨rfl, rfl, rfl, Nat.le_refl _, fun _ _ => rfl⟩
    have hb1 : Below w.heap.size w (w.alloc (.cells #[.int .i64 1, .string (mk row), .string ⟨#[]⟩, .slice none 0 0] 30)).drew := ((Below.refl _ w).alloc (Nat.le_refl _) _).trans ⟨rfl, rfl, rfl, Nat.le_refl _, fun _ _ => rfl⟩
    have hown : (w.alloc (.cells #[.int .i64 1, .string (mk row), .string ⟨#[]⟩, .slice none 0 0] 30)).drew.ownsRow B 30 4 (.slice la L.length lc) L.length (flatP L) := own_below h.list hb1
    have hnew : ∀ j u, [Value.int .i64 1, .string (mk row), .string ⟨#[]⟩, .slice none 0 0][j]? = some u → (w.alloc (.cells #[.int .i64 1, .string (mk row), .string ⟨#[]⟩, .slice none 0 0] 30)).drew.cell? ((⟨w.heap.size, 0, none⟩ : Addr).add j) = some u := new_four w 1 (mk row) ⟨#[]⟩ (.slice none 0 0) 30
    have hsz1 : w.heap.size < (w.alloc (.cells #[.int .i64 1, .string (mk row), .string ⟨#[]⟩, .slice none 0 0] 30)).drew.heap.size := by simp
    have hptc : ptC (byP row) = [.int .i64 1, .string (mk row), .string ⟨#[]⟩, .slice none 0 0] := rfl
    generalize hT : mk row = T at hC hb1 hown hnew hsz1 hptc
    generalize hW1 : (w.alloc (.cells #[.int .i64 1, .string T, .string ⟨#[]⟩, .slice none 0 0] 30)).drew = W1 at hb1 hown hnew hsz1
    have HC := hide' hC
    have HW := hide' hW1
    have HP := hide' hptc
    have H := hide' h
    have HT := hide' hT
    clear h hC hT hW1 hptc hfl hne hrw
    go_enter Tryd.func25, Tryd.ntmps25
    go_upto_region 2 with fail
    refine wp_region_classX [13, 14, 15] (C := AlC A (.slice la L.length lc) (.slice (some ⟨g, 0, none⟩) (r.length + 1) cap) T) (by kernel_rfl) ?_
    (refine wpAnyX_take (i := 0) (v := ?_) (HC.out _ hbd) rfl (by kernel_rfl) (by kernel_rfl) (by kernel_rfl) (by kernel_rfl) (fun _ _ _ h => h) (Or.inl ⟨by kernel_rfl, ?_⟩) ?_; rotate_left; (intro w hc; have k0 := hc.c0; have k1 := hc.c1; have k2 := hc.cv; clear hc; go_simp; try with_reducible rfl))
    (refine wpAnyX_take (i := 1) (v := ?_) (HC.out _ hbd) rfl (by kernel_rfl) (by kernel_rfl) (by kernel_rfl) (by kernel_rfl) (fun _ _ _ h => h) (Or.inl ⟨by kernel_rfl, ?_⟩) ?_; rotate_left; (intro w hc; have k0 := hc.c0; have k1 := hc.c1; have k2 := hc.cv; clear hc; go_simp; try with_reducible rfl))
    (refine wpAnyX_take (i := 2) (v := ?_) (HC.out _ hbd) rfl (by kernel_rfl) (by kernel_rfl) (by kernel_rfl) (by kernel_rfl) (fun _ _ _ h => h) (Or.inl ⟨by kernel_rfl, ?_⟩) ?_; rotate_left; (intro w hc; have k0 := hc.c0; have k1 := hc.c1; have k2 := hc.cv; clear hc; go_simp; try with_reducible rfl))
    (refine wpAnyX_take (i := 3) (v := ?_) (HC.out _ hbd) rfl (by kernel_rfl) (by kernel_rfl) (by kernel_rfl) (by kernel_rfl) (fun _ _ _ h => h) (Or.inl ⟨by kernel_rfl, ?_⟩) ?_; rotate_left; (intro w hc; have k0 := hc.c0; have k1 := hc.c1; have k2 := hc.cv; clear hc; go_simp; try with_reducible rfl))
    (refine wpAnyX_take (i := 4) (v := ?_) (HC.out _ hbd) rfl (by kernel_rfl) (by kernel_rfl) (by kernel_rfl) (by kernel_rfl) (fun _ _ _ h => h) (Or.inl ⟨by kernel_rfl, ?_⟩) ?_; rotate_left; (intro w hc; have k0 := hc.c0; have k1 := hc.c1; have k2 := hc.cv; clear hc; go_simp; try with_reducible rfl))
    go_simp
    (refine wpAnyX_take (i := 5) (v := ?_) (HC.out _ hbd) rfl (by kernel_rfl) (by kernel_rfl) (by kernel_rfl) (by kernel_rfl) (fun _ _ _ h => h) (Or.inl ⟨by kernel_rfl, ?_⟩) ?_; rotate_left; (intro w hc; have k0 := hc.c0; have k1 := hc.c1; have k2 := hc.cv; clear hc; go_simp; try with_reducible rfl))
    (refine wpAnyX_take (i := 6) (v := ?_) (HC.out _ hbd) rfl (by kernel_rfl) (by kernel_rfl) (by kernel_rfl) (by kernel_rfl) (fun _ _ _ h => h) (Or.inl ⟨by kernel_rfl, ?_⟩) ?_; rotate_left; (intro w hc; have k0 := hc.c0; have k1 := hc.c1; have k2 := hc.cv; clear hc; go_simp; try with_reducible rfl))
    (refine wpAnyX_take (i := 7) (v := ?_) (HC.out _ hbd) rfl (by kernel_rfl) (by kernel_rfl) (by kernel_rfl) (by kernel_rfl) (fun _ _ _ h => h) (Or.inl ⟨by kernel_rfl, ?_⟩) ?_; rotate_left; (intro w hc; have k0 := hc.c0; have k1 := hc.c1; have k2 := hc.cv; clear hc; go_simp; try with_reducible rfl))
    (refine wpAnyX_take (i := 8) (v := ?_) (HC.out _ hbd) rfl (by kernel_rfl) (by kernel_rfl) (by kernel_rfl) (by kernel_rfl) (fun _ _ _ h => h) (Or.inl ⟨by kernel_rfl, ?_⟩) ?_; rotate_left; (intro w hc; have k0 := hc.c0; have k1 := hc.c1; have k2 := hc.cv; clear hc; go_simp; try with_reducible rfl))
    (refine wpAnyX_take (i := 9) (v := ?_) (HC.out _ hbd) rfl (by kernel_rfl) (by kernel_rfl) (by kernel_rfl) (by kernel_rfl) (fun _ _ _ h => h) (Or.inl ⟨by kernel_rfl, ?_⟩) ?_; rotate_left; (intro w hc; have k0 := hc.c0; have k1 := hc.c1; have k2 := hc.cv; clear hc; go_simp; try with_reducible rfl))
    go_simp
    (refine wpAnyX_take (i := 10) (v := ?_) (HC.out _ hbd) rfl (by kernel_rfl) (by kernel_rfl) (by kernel_rfl) (by kernel_rfl) (fun _ _ _ h => h) (Or.inl ⟨by kernel_rfl, ?_⟩) ?_; rotate_left; (intro w hc; have k0 := hc.c0; have k1 := hc.c1; have k2 := hc.cv; clear hc; go_simp; try with_reducible rfl))
    go_simp
    refine wpAnyX_one (i := 11) (by kernel_rfl) (wpOp_wanted rfl (by rfl) ?_)
    go_simp
    rw [HW.out]
    refine ⟨HC.out _ hb1, ?_⟩
    refine wpAnyX_one (i := 12) (by kernel_rfl) (wpOp_wanted rfl (by rfl) ?_)
    refine wp_append_lies _ _ _ 23 rfl B 30 inf _ 4 64 Tryd.underlying23 hi hz0 hz1 hz2 rfl (by decide) (.slice la L.length lc) L.length (flatP L) rfl hown ⟨w.heap.size, 0, none⟩ 1 1 [.int .i64 1, .string T, .string ⟨#[]⟩, .slice none 0 0] rfl rfl hnew (by simp [Value.oneCell']) (by decide) (by unfold maxLen; omega) (by omega) (by omega) _ rfl ?_
    intro g2 cap2 w2 ho hg hat hlt2
    have hend := H.out.putList (x := byP row) hb1 hg (by rw [HP.out]; exact ho) (World.ownsRow_nil _ _ _ _)
    have hrow2 := own_kept H.out.row (w' := w2) fun k hk => (hg.block k (by have := own_lt H.out.row k hk; have := hb1.size; omega) (fun e => own_apart H.out.row H.out.list (by decide) hk e.symm)).trans (hb1.block k (own_lt H.out.row k hk))
    have f6 := Lib.frozen_of_heap hend.2.2 0
    have e6 : w2.cell? ⟨A, 0, none⟩ = some (.slice la L.length lc) := by rw [Lib.cell_of_heap hend.2.2]; rfl
    have e7 : w2.cell? ⟨A, 1, none⟩ = some (.slice (some ⟨g, 0, none⟩) (r.length + 1) cap) := by rw [Lib.cell_of_heap hend.2.2]; rfl
    refine ⟨fun _ => ⟨e6, e7, by rw [← HT.out]; exact row_str hrow2 (by intro e; rw [e] at hrow2; have := hrow2.1; simp at this; have h9 := hrow2.2; rcases h9 with ⟨h9, _⟩ | ⟨_, _, _, h9, _⟩ <;> simp at h9)⟩, ?_⟩
    have HE := hide' hend
    have hE3 := hend.1
    obtain ⟨g', cap', hg', hrow3⟩ : ∃ g' cap', (Value.slice (some ⟨g, 0, none⟩) (r.length + 1) cap) = .slice (some ⟨g', 0, none⟩) (r.length + 1) cap' ∧ (w2.setCell ⟨A, 0, none⟩ (.slice (some ⟨g2, 0, none⟩) (L.length + 1) cap2)).ownsRow B 5 1 (.slice (some ⟨g', 0, none⟩) 0 cap') 0 [] := by
      have hl : row.length = r.length + 1 := by
        have := hE3.row.2
        rcases this with ⟨h9, _⟩ | ⟨_, _, _, h9, _⟩
        · simp at h9
        · simp at h9; omega
      have := hE3.row
      rw [hl] at this
      exact row_none this
    obtain ⟨rfl, rfl⟩ : g = g' ∧ cap = cap' := by simpa using hg'
    have hfin := hE3.putRow (w0 := w2.setCell ⟨A, 0, none⟩ (.slice (some ⟨g2, 0, none⟩) (L.length + 1) cap2)) (w1 := w2.setCell ⟨A, 0, none⟩ (.slice (some ⟨g2, 0, none⟩) (L.length + 1) cap2)) (row' := []) (Below.refl _ _) ⟨rfl, rfl, rfl, Nat.le_refl _, fun _ _ _ => rfl⟩ hrow3
    have HF := hide' hfin
    have hgo : ∀ i, (Value.slice (some ⟨g2, 0, none⟩) (L.length + 1) cap2).ownBlock = some i → (Value.slice la L.length lc).ownBlock = some i ∨ w.heap.size ≤ i := fun i hi => by
      obtain rfl : g2 = i := by simpa [Value.ownBlock] using hi
      rcases hat with h | h
      · exact .inl h
      · exact .inr (by omega)
    have HG := hide' hgo
    have c0' := hE3.c0
    have c1' := hE3.c1
    have f1' := hE3.fz 1
    have c2' := hfin.1.c0
    clear hgo hend hg ho hat hown hb1 hE3 hfin hrow2 hrow3 hg' hnew HC hbd
    refine wpAnyX_one (i := 13) (by kernel_rfl) (wpOp_wanted rfl (by rfl) ?_)
    go_simp
    refine wpAnyX_one (i := 14) (by kernel_rfl) (wpOp_wanted rfl (by rfl) ?_)
    go_simp
    refine wpAnyX_one (i := 15) (by kernel_rfl) (wpOp_wanted rfl (by rfl) ?_)
    go_simp
    refine wpAnyX_done (by kernel_rfl) ?_ _
    go_wp2
    go_ret
    refine ⟨_, _, rfl, ?_, HF.out.1, HG.out⟩
    exact HE.out.2.1.trans (turn_set _ A 1 _ (S := nestS A (.slice la L.length lc)) (.inl rfl)) fun _ hi => .inl hi
end Go.Proofs.YtaemmgllhmjceaaDoor
