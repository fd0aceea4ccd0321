/- The contract of slices.AppendSeq over the names in a directory. The contracts of slices.Sorted over the names in a directory, of (*FS).list and (*FS).List. The contracts of (*FS).list and (*FS).List. -/
import Derived.Test.YtpbfhbnkalambaaGreatDoorZi
import Derived.Test.YtpbfhbnkalambaaGreatDoorZk
import Derived.RangeFuncBox
import Derived.Shelf.SlIter.Collect
import Derived.Test.YtpbfhbnkalambaaGreatDoorZt
import Derived.Sort.OwnSorted
namespace Go.Proofs.YtpbfhbnkalambaaGreatDoor
open Go.RowKit Go.Shelf Go.Maps
attribute [local go_sem] Oper.semAt_some

/-- what holds between two rounds -/
def KlI (w : World) (N : Nat) (pre : List Bs) (W : World) : Prop :=
  (∃ v, Boxed W w.heap.size 69 v ∧ W.ownsRow N 9 1 v pre.length (pre.map encStr) ∧ True) ∧ Below w.heap.size w W ∧ N ≤ W.heap.size
theorem not_own {W : World} {N n : Nat} {v : Value} {xs : List Value} (h : W.ownsRow N 9 1 v n xs) {k : Nat} (hk : k < N) : some k ≠ v.ownBlock := by
  rcases h.2 with ⟨rfl, _⟩ | ⟨g, cap, cur, rfl, hb, _, _⟩
  · simp [Value.ownBlock]
  · simp [Value.ownBlock]; omega
/-- the end of a round: behind the append and the store -/
theorem kl_end {w W w2 : World} {N : Nat} {pre : List Bs} {x : Bs} {v v' : Value} {tmp : Obj} (B : Nat)
    (hv : Boxed W w.heap.size 69 v) (hrow : W.ownsRow N 9 1 v pre.length (pre.map encStr)) (hB : Below w.heap.size w W) (hA : w.heap.size < N) (hN : N ≤ W.heap.size)
    (hown' : w2.ownsRow N 9 1 v' (pre.length + 1) (pre.map encStr ++ [encStr x])) (hgrow : (W.alloc tmp).grownBy w2 v.ownBlock) :
    Boxed w2 w.heap.size 69 v ∧ KeepsFrom B W (w2.setCell ⟨w.heap.size, 0, none⟩ v') ∧ Kw w.heap.size N W (w2.setCell ⟨w.heap.size, 0, none⟩ v') ∧ KlI w N (pre ++ [x]) (w2.setCell ⟨w.heap.size, 0, none⟩ v') := by
  have hv2 : Boxed w2 w.heap.size 69 v := (hv.alloc tmp).kept hgrow (not_own hrow hA)
  have hg3 := grownBy_setCell' w2 w.heap.size v'
  have hs2 : W.heap.size + 1 ≤ w2.heap.size := by have := hgrow.size; simpa using this
  have hs3 := hg3.size
  have hk : Kf w.heap.size N W (w2.setCell ⟨w.heap.size, 0, none⟩ v') := by
    refine ⟨by omega, fun k hk hkA => ?_⟩
    have e3 := hg3.block k (by omega) (by simpa using hkA)
    have e2 := hgrow.block k (by simp; omega) (not_own hrow (by omega))
    have e1 : (W.alloc tmp).heap[k]? = W.heap[k]? := Below.heap_alloc W tmp k (by omega)
    exact e3.trans (e2.trans e1)
  have hrw : ∀ (j : Nat) (o : Obj), v.ownBlock = some j → (W.alloc tmp).heap[j]? = some o → o.isCells = true ∧ o.isWalk = false := fun j o ej hj => by
    rcases (hrow.alloc tmp).2 with ⟨rfl, _⟩ | ⟨g, cap, cur, rfl, _, hgb, _⟩
    · simp [Value.ownBlock] at ej
    · obtain rfl : g = j := by simpa [Value.ownBlock] using ej
      rw [hgb] at hj; cases hj; exact ⟨rfl, rfl⟩
  have hks : KeepsOthers W (w2.setCell ⟨w.heap.size, 0, none⟩ v') :=
    ((KeepsOthers.alloc W tmp).trans (KeepsOthers.of_grownBy hgrow fun j o ej hj => (hrw j o ej hj).1)).trans (KeepsOthers.setCell _ _ _)
  have hkw : KeepsWalks W (w2.setCell ⟨w.heap.size, 0, none⟩ v') := ((KeepsWalks.alloc W tmp).trans (KeepsWalks.of_grownBy hgrow fun j o ej hj => (hrw j o ej hj).2)).trans (KeepsWalks.setCell _ _ _)
  have hb2 : Below w.heap.size w (w2.setCell ⟨w.heap.size, 0, none⟩ v') := by
    refine ((hB.alloc (by omega) tmp).grown hgrow (by simp; omega) fun j ej => ?_).setCell (p := ⟨w.heap.size, 0, none⟩) (Nat.le_refl _) v'
    rcases Nat.lt_or_ge j N with h | h
    · exact absurd ej.symm (not_own hrow h)
    · omega
  refine ⟨hv2, hks.from _, ⟨hk, hkw⟩, ⟨v', hv2.set v', ?_, trivial⟩, hb2, by omega⟩
  have := hown'.kept hg3 (.inr (not_own hown' hA).symm)
  simpa using this
set_option maxRecDepth 100000 in
set_option maxHeartbeats 2000000 in
theorem seq_kids (Bf Ba A M : Nat) (L : Ents) (wt clk rm : Int) (p : Bs) (w : World) (h : FsAt w A M L wt clk rm) (bF : Boxed w Bf 28 (.pointer (some ⟨A, 0, none⟩))) (bA : Boxed w Ba 9 (.string (mk (ahead p)))) (hll : L.length ≤ 1000) :
    Calls Tryz.prog 96 #[.slice none 0 0, .func (.func 121) #[] #[.pointer (some ⟨Bf, 0, none⟩), .pointer (some ⟨Ba, 0, none⟩)]] w fun e w' => ∃ (v : Value) (ys : List Bs), e = .returned v ∧ ys.Perm (kidNames L p) ∧ w'.ownsRow w.heap.size 9 1 v ys.length (ys.map encStr) ∧ Below w.heap.size w w' := by
  obtain ⟨i0, hi, hz0, hz1, hz2⟩ := info_parts info9
  refine (callsIn_wide (n := 5)).1 ?_
  refine callsIn_of_wp_marks Tryz.func96 rfl trivial ?_ rfl
  simp only [Tryz.ntmps96, List.size_toArray, List.length_cons, List.length_nil, Nat.reduceAdd, Nat.reduceSub, Array.replicate_succ, Array.replicate_zero, List.push_toArray, List.append_toArray, List.nil_append, List.cons_append]
  gi_wp2
  obtain ⟨W0, hW0⟩ : ∃ W0, W0 = w.alloc (.cells #[.slice none 0 0] 69) := ⟨_, rfl⟩
  rw [← hW0]
  have hz : W0.heap.size = w.heap.size + 1 := by rw [hW0]; simp
  have hB0 : Below w.heap.size w W0 := by rw [hW0]; exact (Below.refl _ w).alloc (Nat.le_refl _) _
  have bR : Boxed W0 w.heap.size 69 (.slice none 0 0) := by rw [hW0]; exact Boxed.new w 69 _
  have hBf : Bf < w.heap.size := lt_of_block bF
  have hBa : Ba < w.heap.size := lt_of_block bA
  have bF0 := box_below bF hB0
  have bA0 := box_below bA hB0
  have hF0 := h.below hB0
  have hE : ∀ W', Kf w.heap.size W0.heap.size W0 W' → W'.cell? ⟨Ba, 0, none⟩ = some (.string (mk (ahead p))) := fun W' h => (kf_box h bA0 (by omega) (by omega)).cell
  clear hW0 bA0
  refine wpIn_rangeFunc_ownG rfl (by decide) (gf := 121) (lb := #[.pointer (some ⟨Bf, 0, none⟩), .pointer (some ⟨Ba, 0, none⟩)]) rfl trivial (enters_of Tryz.func121 (by kernel_rfl) rfl)
    (kids_stops 4 (by decide) w.heap.size W0.heap.size Bf Ba A M L p wt clk rm h.keys W0 (Nat.le_refl _) bF0.cell (by omega) hE hF0.fb hF0.mp) (fun h k => Kw.t h k) (fun W l o o' hl ho _ hw => ⟨Kf.b W l o' hl, walksK_b (w := W0) W l o o' hl ho (by assumption) hw⟩) (Below.refl _ _) (fun _ => rfl)
    (KlI w W0.heap.size) (fun _ _ _ => False)
    (OwnFrom.and (Own.from (holdsRow_own W0.heap.size w.heap.size 69 9 1 (fun pre : List Bs => pre.length) (fun pre => pre.map encStr) (fun _ _ => True)) _) (OwnFrom.and (ownFrom_below (Nat.le_refl _) (by omega)) (fun _ _ _ _ hs hg _ => Nat.le_trans hs hg.size)))
    (fun _ _ _ _ _ hs _ _ => hs)
    ⟨⟨_, bR, World.ownsRow_nil _ _ _ _, trivial⟩, hB0, Nat.le_refl _⟩
    (fun x => { tmps := #[.slice none 0 0, .func (.func 121) #[] #[.pointer (some ⟨Bf, 0, none⟩), .pointer (some ⟨Ba, 0, none⟩)], .pointer (some ⟨w.heap.size, 0, none⟩), undef, .slice none 0 0, encStr x, .func (.func 121) #[] #[.pointer (some ⟨Bf, 0, none⟩), .pointer (some ⟨Ba, 0, none⟩)], encStr x, undef, undef, undef, undef, undef], defers := [] }) ?assign ?body ?done ?stop
  case assign =>
    intro l x W K hK
    gi_wp2
    simpa using hK
  case body =>
    rintro l pre x W ⟨⟨v, hv, hrow, _⟩, hB, hN⟩ hlt
    have hc := hv.cell
    have hpb : pre.length + 1 ≤ maxLen := by unfold maxLen; omega
    have hbb : (pre.length + 1) * 16 ≤ 140737488355328 := by omega
    have h2b : W0.heap.size ≤ (W.alloc (Obj.cells #[encStr x] 9)).heap.size := by simp; omega
    have hA : w.heap.size < W0.heap.size := by omega
    gi_wp2_with (first
      | (gi_at_builtin; refine wpListIn_append_own _ rfl _ _ 69 rfl W0.heap.size 9 i0 (.string ⟨#[]⟩) 1 16 Tryz.underlying69 hi hz0 hz1 hz2 rfl (by decide) _ _ _ rfl (hrow.alloc _) ⟨W.heap.size, 0, none⟩ 1 1 [encStr x] rfl rfl (cell_one_new _ _ _) (by simp [Value.oneCell', encStr]) hpb hbb h2b ?_; intro v' w2 hown' hgrow _; obtain ⟨g', cap', rfl⟩ := ownsRow_succ hown'; obtain ⟨hv2, hkf, hkp, hsp⟩ := kl_end W0.heap.size hv hrow hB hA hN hown' hgrow; have hc3 := hv2.cell; have hf3 := hv2.frozen; go_frame)
      | (rw [Oper.semAt_eq _ _ _ (fun c h => by cases h)]; go_simp; try go_bits))
    exact ⟨hkf, hkp, hsp⟩
  case done =>
    rintro D ys W hD hys ⟨⟨v, hv, hrow, _⟩, hB, hN⟩ hK
    have hc := hv.cell
    gi_wp2
    refine ⟨by simp, .inl ⟨_, _, rfl, run_takeDeferred hK, ?_⟩⟩
    exact ⟨_, results_tmp rfl _ _ _, v, ys, rfl, hys, sown_base (ownsRow_putObj hrow _ hK rfl) (by omega), hB.trans (belowK_b (w := W0) (by omega) W D _ _ hD hK rfl rfl)⟩
  case stop =>
    rintro D c pre W _ _ h _
    exact h.elim
end Go.Proofs.YtpbfhbnkalambaaGreatDoor
namespace Go.Proofs.YtpbfhbnkalambaaGreatDoor
open Go.RowKit Go.Shelf Go.Maps Go.Sort

/-- a list of texts in a block from b on -/
def LsAt (w : World) (b : Nat) (v : Value) (K : List Bs) : Prop :=
  (v = .slice none 0 0 ∧ K = []) ∨ ∃ g cap cur, v = .slice (some ⟨g, 0, none⟩) K.length cap ∧ b ≤ g ∧ w.heap[g]? = some (.cells cur 9 (0, 0)) ∧ K.length ≤ cap ∧ K.length ≤ cur.size ∧ cur.toList.take K.length = K.map encStr
theorem LsAt.of_row {w : World} {b n : Nat} {v : Value} {K : List Bs} (h : w.ownsRow b 9 1 v n (K.map encStr)) (hn : n = K.length) : LsAt w b v K := by
  subst hn
  rcases h.2 with ⟨rfl, h0⟩ | ⟨g, cap, cur, rfl, hb, hg, h1, h2, h3, h4⟩
  · exact .inl ⟨rfl, List.eq_nil_of_length_eq_zero h0⟩
  · exact .inr ⟨g, cap, cur, rfl, hb, hg, h1, by omega, by rw [Nat.mul_one] at h4; exact h4⟩
def ListW (w : World) (T : Tr) (p : Bs) (r : Option Nat) (e : Ending) (w' : World) : Prop := Below w.heap.size w w' ∧ ∃ (v : Value) (er : Int), e = .returned (.tuple #[v, .int .i64 er]) ∧ match r with
  | some m => v = .slice none 0 0 ∧ er = m
  | none => er = 0 ∧ ∃ K : List Bs, LsAt w' w.heap.size v K ∧ Up K ∧ ∀ y, y ∈ K ↔ y ∈ kidNames T p
theorem enc_tl (K : List ByteArray) : K.map Value.string = (K.map tl).map encStr := by
  rw [List.map_map]
  refine List.map_congr_left fun x _ => ?_
  obtain ⟨⟨a⟩⟩ := x
  rfl
theorem ListV.w {w : World} {T : Tr} {p : Bs} {r : Option Nat} {e : Ending} {w' : World} (h : ListV w T p r e w') : ListW w T p r e w' := by
  obtain ⟨h1, v, er, h2, h3⟩ := h
  refine ⟨h1, v, er, h2, ?_⟩
  cases r with
  | some m => exact h3
  | none =>
    obtain ⟨h4, K, h5, h6, h7⟩ := h3
    rw [enc_tl] at h5
    exact ⟨h4, K.map tl, LsAt.of_row h5 (by rw [List.length_map]), h6, h7⟩
theorem ms_up {K : List Bs} (h : K.Nodup) : Up (K.mergeSort (fun x y => decide (x ≤ y))) := by
  have hle : (K.mergeSort (fun x y => decide (x ≤ y))).Pairwise (fun a b => decide (a ≤ b) = true) :=
    List.pairwise_mergeSort (fun a b c h1 h2 => by simp only [decide_eq_true_eq] at *; exact List.le_trans h1 h2) (fun a b => by simp only [Bool.or_eq_true, decide_eq_true_eq]; exact List.le_total a b) K
  have hnd : (K.mergeSort (fun x y => decide (x ≤ y))).Nodup := (List.mergeSort_perm K _).nodup_iff.2 h
  exact (List.Pairwise.and hle hnd).imp fun h => lt_of_le_ne (of_decide_eq_true h.1) h.2
set_option maxRecDepth 100000 in
set_option maxHeartbeats 1000000 in
theorem collect_kids (Bf Ba A M : Nat) (L : Ents) (wt clk rm : Int) (p : Bs) (w : World) (h : FsAt w A M L wt clk rm) (bF : Boxed w Bf 28 (.pointer (some ⟨A, 0, none⟩))) (bA : Boxed w Ba 9 (.string (mk (ahead p)))) (hll : L.length ≤ 1000) :
    Calls Tryz.prog 67 #[.func (.func 121) #[] #[.pointer (some ⟨Bf, 0, none⟩), .pointer (some ⟨Ba, 0, none⟩)]] w fun e w' => ∃ (v : Value) (ys : List Bs), e = .returned v ∧ ys.Perm (kidNames L p) ∧ w'.ownsRow w.heap.size 9 1 v ys.length (ys.map encStr) ∧ Below w.heap.size w w' := by
  have q := seq_kids Bf Ba A M L wt clk rm p w h bF bA hll
  clear h bF bA
  go_enter Tryz.func67, Tryz.ntmps67
  go_wp2_with fail
  refine q.mono ?_
  rintro r w1 ⟨v, ys, rfl, h1, h2, h3⟩
  obtain ⟨a, c, rfl⟩ := srow_form h2
  have HF := hide' (And.intro h1 (And.intro h2 h3))
  clear h1 h2 h3 q
  go_wp2
  go_ret
  exact ⟨_, ys, rfl, HF.out.1, HF.out.2.1, HF.out.2.2⟩
set_option maxRecDepth 100000 in
set_option maxHeartbeats 1000000 in
theorem sorted_kids (Bf Ba A M : Nat) (L : Ents) (wt clk rm : Int) (p : Bs) (w : World) (h : FsAt w A M L wt clk rm) (bF : Boxed w Bf 28 (.pointer (some ⟨A, 0, none⟩))) (bA : Boxed w Ba 9 (.string (mk (ahead p)))) (hll : L.length ≤ 1000) :
    Calls Tryz.prog 36 #[.func (.func 121) #[] #[.pointer (some ⟨Bf, 0, none⟩), .pointer (some ⟨Ba, 0, none⟩)]] w fun e w' => ∃ (v : Value) (ys : List Bs), e = .returned v ∧ ys.Perm (kidNames L p) ∧ w'.ownsRow w.heap.size 9 1 v ys.length ((ys.mergeSort fun x y => decide (x ≤ y)).map encStr) ∧ Below w.heap.size w w' := by
  have q := collect_kids Bf Ba A M L wt clk rm p w h bF bA hll
  clear h bF bA
  go_enter Tryz.func36, Tryz.ntmps36
  go_wp2_with fail
  refine q.mono ?_
  rintro r w1 ⟨v, ys, rfl, h1, h2, h3⟩
  have hyl : ys.length ≤ 1000 := by
    rw [h1.length_eq]
    exact Nat.le_trans (List.length_filterMap_le _ _) (by rw [List.length_map]; exact hll)
  rcases h2.2 with ⟨rfl, hz⟩ | ⟨gb, cap, cur, rfl, hbase, hgb, r1, r2, r3, r4⟩
  · have hss : ys = [] := List.eq_nil_of_length_eq_zero hz
    subst hss
    have HF := hide' (And.intro h1 (And.intro h2 h3))
    clear h1 h2 h3 q
    go_wp2_with fail
    refine (Tryz.slices_Sort_string_none none 0 w1).mono ?_
    rintro r w2 ⟨rfl, rfl⟩
    go_wp2
    go_ret
    exact ⟨_, [], rfl, HF.out.1, by simpa using HF.out.2.1, HF.out.2.2⟩
  · have hH : Holds encStr w1 gb 0 ys.toArray := holds_of_block hgb (by simpa using r4)
    have hgl : gb < w1.heap.size := lt_of_block hgb
    have cS := Tryz.slices_Sort_string gb 0 cap ys w1 hH hgl (by omega)
    have hown := fun n os => ownsRow_sorted (w := w1) (n := n) (os := os) (ss := ys) (ts := ys.mergeSort fun x y => decide (x ≤ y)) (by simp) hbase hgb r1 r2 r3
    have HF := hide' (And.intro h1 (And.intro hown (And.intro h3 hbase)))
    clear h1 h2 h3 q hown hH r4
    go_wp2_with fail
    refine cS.mono ?_
    rintro r w2 ⟨rfl, nn, os, rfl⟩
    go_wp2
    go_ret
    exact ⟨_, ys, rfl, HF.out.1, HF.out.2.1 nn os, HF.out.2.2.1.grown (grownBy_sorted _) HF.out.2.2.1.size (fun j hj => by cases hj; exact HF.out.2.2.2)⟩
/-- cut -/
theorem cutS_any (b n : Nat) (v : Value) (K : List Bs) (w : World) (h : w.ownsRow b 9 1 v n (K.map encStr)) (hn : n = K.length) : Calls Tryz.prog 99 #[v] w fun r w' => ∃ v', r = .returned v' ∧ LsAt w b v' K ∧ w' = w := by
  subst hn
  rcases h.2 with ⟨rfl, h0⟩ | ⟨g, cap, cur, rfl, hb, hg, h1, h2, h3, h4⟩
  · have hK : K = [] := List.eq_nil_of_length_eq_zero h0
    clear h
    go_enter Tryz.func99, Tryz.ntmps99
    go_wp2
    go_ret
    exact ⟨_, rfl, .inl ⟨rfl, hK⟩, rfl⟩
  · have HF : Hid (LsAt w b (.slice (some ⟨g, 0, none⟩) K.length K.length) K) := hide' (.inr ⟨g, K.length, cur, rfl, hb, hg, Nat.le_refl _, by omega, by rw [Nat.mul_one] at h4; exact h4⟩)
    clear h h4 hg hb h2 h3
    go_enter Tryz.func99, Tryz.ntmps99
    go_wp2
    go_ret
    exact ⟨_, rfl, HF.out, rfl⟩
end Go.Proofs.YtpbfhbnkalambaaGreatDoor
namespace Go.Proofs.YtpbfhbnkalambaaGreatDoor
open Go.RowKit Go.Shelf Go.Maps

theorem LsAt.base {w : World} {b b2 : Nat} {v : Value} {K : List Bs} (h : LsAt w b v K) (hb : b2 ≤ b) : LsAt w b2 v K := by
  rcases h with h | ⟨g, cap, cur, rfl, h1, r⟩
  · exact .inl h
  · exact .inr ⟨g, cap, cur, rfl, Nat.le_trans hb h1, r⟩
theorem LsAt.below {w w' : World} {b : Nat} {v : Value} {K : List Bs} (h : LsAt w b v K) (hb : Below w.heap.size w w') : LsAt w' b v K := by
  rcases h with h | ⟨g, cap, cur, rfl, h1, hg, r⟩
  · exact .inl h
  · exact .inr ⟨g, cap, cur, rfl, h1, (hb.block g (lt_of_block hg)).trans hg, r⟩
/-- what list tells -/
def LtR (w : World) (E : Addr) (L : Ents) (p : Bs) (o : Option Nat) (r : Ending) (w' : World) : Prop := Below w.heap.size w w' ∧ ∃ v ev k, r = .returned (.tuple #[v, ev]) ∧ IsErr w' E ev k ∧ match o with
  | some m => v = .slice none 0 0 ∧ k.num = m
  | none => k = .ok ∧ ∃ K : List Bs, LsAt w' w.heap.size v K ∧ Up K ∧ ∀ y, y ∈ K ↔ y ∈ kidNames L p
def listV (L : Ents) (p : Bs) : Option Nat := match lookV L p with
  | .bad m => some m
  | .non => some 10
  | .rt => none
  | .is e => if e.nd.dir then none else some 11
set_option maxRecDepth 100000 in
set_option maxHeartbeats 2000000 in
theorem list_any (B A M : Nat) (E : Addr) (L : Ents) (wt clk rm : Int) (c : Bs) (w : World) (h : FsAt w A M L wt clk rm) (hG : Glo B w E) (hB : B ≤ w.heap.size) (hp : c.length ≤ 1000000) (hll : L.length ≤ 1000) (hnd : (kidNames L c).Nodup) :
    Calls Tryz.prog 76 #[.pointer (some ⟨A, 0, none⟩), .string (mk c)] w (LtR w E L c (listV L c)) := by
  have q := look_any B A M L wt clk rm c w E h hG hB hp
  unfold listV
  cases hl : lookV L c with
  | bad n =>
    rw [hl] at q
    go_enter Tryz.func76, Tryz.ntmps76
    go_wp2_with fail
    refine q.mono ?_
    rintro r w1 ⟨⟨b, rfl, hf⟩, hb⟩
    have HF : Hid (LtR w E L c (some n) (.returned (.tuple #[.slice none 0 0, .iface 95 (.pointer (some ⟨b, 0, none⟩))])) w1) := hide' ⟨hb, _, _, .no n, rfl, ⟨b, rfl, hf⟩, rfl, rfl⟩
    clear hf hb q hnd h hG
    dsimp only
    go_wp2_with fail
    refine bodyPost_ret (v := .tuple #[.slice none 0 0, .iface 95 (.pointer (some ⟨b, 0, none⟩))]) (by simp [results, Tryz.results76, go_sem]) rfl ?_
    exact HF.out
  | non =>
    rw [hl] at q
    go_enter Tryz.func76, Tryz.ntmps76
    go_wp2_with fail
    refine q.mono ?_
    rintro r w1 ⟨⟨b, rfl, hf⟩, hb⟩
    have HF : Hid (LtR w E L c (some 10) (.returned (.tuple #[.slice none 0 0, .iface 95 (.pointer (some ⟨b, 0, none⟩))])) w1) := hide' ⟨hb, _, _, .nothing, rfl, ⟨b, rfl, hf⟩, rfl, rfl⟩
    clear hf hb q hnd h hG
    dsimp only
    go_wp2_with fail
    refine bodyPost_ret (v := .tuple #[.slice none 0 0, .iface 95 (.pointer (some ⟨b, 0, none⟩))]) (by simp [results, Tryz.results76, go_sem]) rfl ?_
    exact HF.out
  | rt =>
    rw [hl] at q
    go_enter Tryz.func76, Tryz.ntmps76
    go_wp2_with fail
    refine q.mono ?_
    rintro r w1 ⟨⟨b, hbN, rfl, hn⟩, hb⟩
    have c0 : w1.cell? ⟨b, 0, none⟩ = some (.bool true) := hn.c0
    have hneq : ∀ w : World, (binOp .neq 57 .nilIface .nilIface).run Tryz.prog w = .ok (.bool false) w := fun w => by kernel_rfl
    have HB1 := hide' hb
    clear hb q hn
    dsimp only
    have q2 := kids_any A c hp w1
    have hF1 := h.below HB1.out
    obtain ⟨W, hW⟩ : ∃ W, W = (w1.alloc (.cells #[.pointer (some ⟨A, 0, none⟩)] 28)).alloc (.cells #[.string (mk (ahead c))] 9) := ⟨_, rfl⟩
    have hbW : Below w1.heap.size w1 W := by rw [hW]; exact ((Below.refl _ _).alloc (Nat.le_refl _) _).alloc (by simp) _
    have bF : Boxed W w1.heap.size 28 (.pointer (some ⟨A, 0, none⟩)) := by rw [hW]; exact (Boxed.new w1 28 _).alloc _
    have bA : Boxed W (w1.heap.size + 1) 9 (.string (mk (ahead c))) := by
      have := Boxed.new (w1.alloc (.cells #[.pointer (some ⟨A, 0, none⟩)] 28)) 9 (.string (mk (ahead c)))
      rw [World.size_alloc] at this
      rw [hW]; exact this
    have q3 := sorted_kids w1.heap.size (w1.heap.size + 1) A M L wt clk rm c W (hF1.below hbW) bF bA hll
    have HBW := hide' (HB1.out.trans (hbW.mono HB1.out.size))
    have HW := hide' hW
    clear hF1 hbW bF bA hW
    go_wp2_with fail
    refine q2.mono ?_
    rintro r w2 ⟨rfl, hw2⟩
    rw [← HW.out] at hw2
    subst hw2
    clear q2 HW
    dsimp only
    go_wp2_with fail
    refine q3.mono ?_
    rintro r w3 ⟨v3, ys, rfl, hpm, hrow, hb3⟩
    have q4 := cutS_any w2.heap.size ys.length v3 (ys.mergeSort fun x y => decide (x ≤ y)) w3 hrow (by simp)
    have HB3 := hide' (HBW.out.trans (hb3.mono HBW.out.size))
    obtain ⟨va, vc, rfl⟩ := srow_form hrow
    have HPM := hide' hpm
    clear q3 hrow hb3 hpm
    dsimp only
    go_wp2_with fail
    refine q4.mono ?_
    rintro r w4 ⟨v4, rfl, hls, rfl⟩
    have HF : Hid (LtR w E L c none (.returned (.tuple #[v4, .nilIface])) w4) := hide' ⟨HB3.out, v4, .nilIface, .ok, rfl, rfl, rfl, _, hls.base HBW.out.size, ms_up (HPM.out.nodup_iff.2 hnd), fun y => by rw [List.mem_mergeSort]; exact HPM.out.mem_iff⟩
    clear q4 hls
    dsimp only
    go_wp2_with fail
    refine bodyPost_ret (v := .tuple #[v4, .nilIface]) (by simp [results, Tryz.results76, go_sem]) rfl ?_
    exact HF.out
  | is e =>
    rw [hl] at q
    obtain ⟨k, hm⟩ := lookV_mem hl
    have hn : NodeAt w e := h.nodes _ hm
    have hneq : ∀ w : World, (binOp .neq 57 .nilIface .nilIface).run Tryz.prog w = .ok (.bool false) w := fun w => by kernel_rfl
    cases hd : e.nd.dir with
    | false =>
      simp only [hd, Bool.false_eq_true, if_false]
      go_enter Tryz.func76, Tryz.ntmps76
      go_wp2_with fail
      refine q.mono ?_
      rintro r w1 ⟨rfl, hb⟩
      have c0 := (hn.below hb).c0
      rw [hd] at c0
      have hF := fun p => (⟨hb.alloc hb.size _, _, _, .no 11, rfl, isErr_alloc w1 E 11 p, rfl, rfl⟩ : LtR w E L c (some 11) (.returned (.tuple #[.slice none 0 0, .iface 95 (.pointer (some ⟨w1.heap.size, 0, none⟩))])) (w1.alloc (.cells #[.string p, .iface 29 (.int .i64 (11 : Nat))] 97)))
      have HF := hide' hF
      clear hb q hnd h hG hn hF
      dsimp only
      go_wp2_with fail
      refine bodyPost_ret (v := .tuple #[.slice none 0 0, .iface 95 (.pointer (some ⟨w1.heap.size, 0, none⟩))]) (by simp [results, Tryz.results76, go_sem]) rfl ?_
      exact HF.out _
    | true =>
      simp only [hd, if_true]
      go_enter Tryz.func76, Tryz.ntmps76
      go_wp2_with fail
      refine q.mono ?_
      rintro r w1 ⟨rfl, hb⟩
      have c0 := (hn.below hb).c0
      rw [hd] at c0
      have HB1 := hide' hb
      clear hb q hn
      dsimp only
      have q2 := kids_any A c hp w1
      have hF1 := h.below HB1.out
      obtain ⟨W, hW⟩ : ∃ W, W = (w1.alloc (.cells #[.pointer (some ⟨A, 0, none⟩)] 28)).alloc (.cells #[.string (mk (ahead c))] 9) := ⟨_, rfl⟩
      have hbW : Below w1.heap.size w1 W := by rw [hW]; exact ((Below.refl _ _).alloc (Nat.le_refl _) _).alloc (by simp) _
      have bF : Boxed W w1.heap.size 28 (.pointer (some ⟨A, 0, none⟩)) := by rw [hW]; exact (Boxed.new w1 28 _).alloc _
      have bA : Boxed W (w1.heap.size + 1) 9 (.string (mk (ahead c))) := by
        have := Boxed.new (w1.alloc (.cells #[.pointer (some ⟨A, 0, none⟩)] 28)) 9 (.string (mk (ahead c)))
        rw [World.size_alloc] at this
        rw [hW]; exact this
      have q3 := sorted_kids w1.heap.size (w1.heap.size + 1) A M L wt clk rm c W (hF1.below hbW) bF bA hll
      have HBW := hide' (HB1.out.trans (hbW.mono HB1.out.size))
      have HW := hide' hW
      clear hF1 hbW bF bA hW
      go_wp2_with fail
      refine q2.mono ?_
      rintro r w2 ⟨rfl, hw2⟩
      rw [← HW.out] at hw2
      subst hw2
      clear q2 HW
      dsimp only
      go_wp2_with fail
      refine q3.mono ?_
      rintro r w3 ⟨v3, ys, rfl, hpm, hrow, hb3⟩
      have q4 := cutS_any w2.heap.size ys.length v3 (ys.mergeSort fun x y => decide (x ≤ y)) w3 hrow (by simp)
      have HB3 := hide' (HBW.out.trans (hb3.mono HBW.out.size))
      obtain ⟨va, vc, rfl⟩ := srow_form hrow
      have HPM := hide' hpm
      clear q3 hrow hb3 hpm
      dsimp only
      go_wp2_with fail
      refine q4.mono ?_
      rintro r w4 ⟨v4, rfl, hls, rfl⟩
      have HF : Hid (LtR w E L c none (.returned (.tuple #[v4, .nilIface])) w4) := hide' ⟨HB3.out, v4, .nilIface, .ok, rfl, rfl, rfl, _, hls.base HBW.out.size, ms_up (HPM.out.nodup_iff.2 hnd), fun y => by rw [List.mem_mergeSort]; exact HPM.out.mem_iff⟩
      clear q4 hls
      dsimp only
      go_wp2_with fail
      refine bodyPost_ret (v := .tuple #[v4, .nilIface]) (by simp [results, Tryz.results76, go_sem]) rfl ?_
      exact HF.out
theorem listV_nd (L : Ents) (p : Bs) : listR (nds L) p = listV L p := by
  unfold listR listV
  rw [lookV_nd]
  cases lookV L p <;> rfl
set_option maxRecDepth 100000 in
set_option maxHeartbeats 2000000 in
theorem List_any (B A : Nat) (E : Addr) (T : Tr) (clk rm : Int) (s : ByteArray) (S : Nat → Prop) (w : World) (h : IsFs w S A T clk rm) (hG : Glo B w E) (hB : B ≤ w.heap.size) (hs : s.size ≤ 400000) (hval : ∀ e ∈ T, valid e.1 = true ∧ e.1 ≠ []) :
    Calls Tryz.prog 48 #[.pointer (some ⟨A, 0, none⟩), .string s] w (ListW w T (clean (tl s)) (listR T (clean (tl s)))) := by
  obtain ⟨M, L, hF, hO, rfl⟩ := h.mem
  have hll : L.length ≤ 1000 := by have := h.len; rwa [nds_length] at this
  have q1 := clean_any s (by omega)
  have hnd : ∀ c, (kidNames L c).Nodup := fun c => by
    rw [← kidNames_nds]
    exact kids_nodup (hF.srt.map En.nd) c hval
  have q2 := fun w1 (hb : Below w.heap.size w w1) => list_any B A M E L _ clk rm (clean (tl s)) w1 (hF.below hb) (hG.keep (hb.mono hB)) (Nat.le_trans hB hb.size) (cln_len s hs) hll (hnd _)
  rw [listV_nd]
  generalize clean (tl s) = c at q1 q2 ⊢
  generalize listV L c = o at q2 ⊢
  clear hF hO hnd hval h
  go_enter Tryz.func48, Tryz.ntmps48
  go_wp2_with fail
  refine (orEmpty_some A _).mono ?_
  rintro r w0 ⟨rfl, hw0⟩
  obtain rfl : w = w0 := hw0.symm
  go_wp2_with fail
  refine (q1 _).mono ?_
  rintro r w1 ⟨rfl, hb1⟩
  go_wp2_with fail
  refine (q2 w1 hb1).mono ?_
  rintro r w2 ⟨hb2, v, ev, k, rfl, hev, hoo⟩
  have hB2 : Below w.heap.size w w2 := hb1.trans (hb2.mono hb1.size)
  have q3 := number_any B E ev k w2 (hG.keep (hB2.mono hB)) hev
  have HO := hide' hoo
  have HB1 := hide' hb1
  have HB2 := hide' hB2
  clear hb1 hb2 hB2 hoo hev q1 q2
  dsimp only
  go_wp2_with fail
  refine q3.mono ?_
  rintro r w3 ⟨rfl, hb3⟩
  have HF : Hid (ListW w (nds L) c o (.returned (.tuple #[v, .int .i64 (k.num : Nat)])) w3) := by
    refine hide' ⟨HB2.out.trans (hb3.mono HB2.out.size), v, _, rfl, ?_⟩
    have ho := HO.out
    cases o with
    | some m => exact ⟨ho.1, by rw [ho.2]⟩
    | none =>
      obtain ⟨rfl, K, h1, h2, h3⟩ := ho
      exact ⟨rfl, K, (h1.base HB1.out.size).below hb3, h2, fun y => by rw [kidNames_nds]; exact h3 y⟩
  clear q3 hb3 HO
  dsimp only
  go_wp2_with fail
  refine bodyPost_ret (v := .tuple #[v, .int .i64 (k.num : Nat)]) (by simp [results, Tryz.results48, go_sem]) rfl ?_
  exact HF.out
end Go.Proofs.YtpbfhbnkalambaaGreatDoor
