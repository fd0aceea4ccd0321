/- The contract of text.Sort: a new list of the texts of its list, rising, each once. -/
import Derived.Test.YtjfbnjajekedlaaDoorShelfS
import Derived.Test.YtjfbnjajekedlaaDoorSortPlain
import Derived.Test.YtjfbnjajekedlaaDoorLent
import Derived.Sort.OwnSorted
import Derived.Sort.Grow
import Derived.Lib.OwnBridge
namespace Go.Proofs.YtjfbnjajekedlaaDoor
open Go.RowKit Go.Shelf Go.Sort

/-- texts as byte arrays -/
def ba (l : Bs) : ByteArray := ⟨l.toArray⟩
theorem tl_ba (l : Bs) : tl (ba l) = l := rfl
theorem map_tl_ba (K : List Bs) : (K.map ba).map tl = K := by
  rw [List.map_map]
  exact (List.map_congr_left fun x _ => rfl).trans (List.map_id K)
theorem ba_tl (x : ByteArray) : ba (tl x) = x := by obtain ⟨⟨a⟩⟩ := x; rfl
theorem enc_tl (L : List ByteArray) : (L.map tl).map encStr = L.map Value.string := by
  rw [List.map_map]
  exact List.map_congr_left fun x _ => by show encStr (tl x) = _; rw [show encStr (tl x) = Value.string (ba (tl x)) from rfl, ba_tl]
theorem enc_ba (K : List Bs) : K.map encStr = (K.map ba).map Value.string := by rw [← enc_tl, map_tl_ba]

/-- behind Clone, Sort and Compact -/
theorem sorted_row {w w1 : World} {g cap n nn q : Nat} {os : Array Obj} {ss : List Bs} (hown : w1.ownsRow w.heap.size 9 1 (.slice (some ⟨g, 0, none⟩) n cap) n (ss.map encStr)) (hbel : Below w.heap.size w w1) (hlen : ss.length = n) :
    (putRow encStr (Sort.ahead (grow (putRow encStr (Sort.ahead w1 nn) g 0 (ss.mergeSort fun x y => decide (x ≤ y)).toArray) os) q) g 0 (so ss ++ List.replicate (n - (so ss).length) []).toArray).ownsRow w.heap.size 9 1 (.slice (some ⟨g, 0, none⟩) (so ss).length cap) (so ss).length ((so ss).map encStr) ∧
      Below w.heap.size w (putRow encStr (Sort.ahead (grow (putRow encStr (Sort.ahead w1 nn) g 0 (ss.mergeSort fun x y => decide (x ≤ y)).toArray) os) q) g 0 (so ss ++ List.replicate (n - (so ss).length) []).toArray) := by
  have hl2 : (ss.mergeSort fun x y => decide (x ≤ y)).length = ss.length := List.length_mergeSort ss
  have hle := so_len ss
  subst hlen
  rcases hown.2 with ⟨h0, _⟩ | ⟨g', cap', cur, hv, hbase, hb, h1, h2, h3, h4⟩
  · cases h0
  cases hv
  have hs := ownsRow_sorted (n := nn) (os := os) (ts := ss.mergeSort fun x y => decide (x ≤ y)) hl2 hbase hb h1 h2 h3
  have hc := Lib.ownsRow_putRow (q := q) (k := (so ss).length) (ys := so ss ++ List.replicate (ss.length - (so ss).length) []) hs (by simp; omega) (by omega)
  rw [List.take_left] at hc
  exact ⟨hc, Lib.below_putRow (hbel.grown (grownBy_sorted _) hbel.size (fun j hj => by cases hj; exact hbase)) hbase⟩

/-- a store of a text where it lies already -/
theorem row_same {W : World} {base : Nat} {g cap n k : Nat} {xs : List Value} {u : Value} (h : W.ownsRow base 9 1 (.slice (some ⟨g, 0, none⟩) n cap) n xs) (hk : xs[k]? = some u) : (W.setCell ⟨g, k, none⟩ u).ownsRow base 9 1 (.slice (some ⟨g, 0, none⟩) n cap) n xs := by
  refine ⟨h.1, ?_⟩
  rcases h.2 with ⟨h0, _⟩ | ⟨g', cap', cur, hv, hbase, hb, h1, h2, h3, h4⟩
  · cases h0
  · cases hv
    refine .inr ⟨g, cap, _, rfl, hbase, Go.heap_setCell_same _ _ _ _ _ _ hb, h1, h2, by simpa using h3, ?_⟩
    have hc : cur.toList[k]? = some u := by
      rw [← h4] at hk
      rw [List.getElem?_take] at hk
      split at hk
      · exact hk
      · cases hk
    have e : cur.setIfInBounds k u = cur := by
      apply Array.ext_getElem?
      intro i
      rw [Array.getElem?_setIfInBounds]
      split
      · rename_i hik
        subst hik
        split
        · simpa using hc.symm
        · rename_i hsz
          rw [Array.getElem?_eq_none (by omega)]
      · rfl
    rw [e]
    exact h4

theorem row_block {W : World} {base : Nat} {g cap n : Nat} {xs : List Value} (h : W.ownsRow base 9 1 (.slice (some ⟨g, 0, none⟩) n cap) n xs) : g < W.heap.size ∧ ∀ k, W.frozen? ⟨g, k, none⟩ = false := by
  rcases h.2 with ⟨h0, _⟩ | ⟨g', cap', cur, hv, hbase, hb, h1, h2, h3, h4⟩
  · cases h0
  · cases hv
    exact ⟨(Array.getElem?_eq_some_iff.1 hb).1, fun k => Lib.frozen_of_heap hb k⟩

set_option maxRecDepth 100000 in
set_option maxHeartbeats 2000000 in
theorem sort_core (n : Nat) (arg : Value) (ss : List Bs) (w : World) (hn : n ≤ 100000) (hsm : ∀ x ∈ ss, x.length ≤ 1000000)
    (hclone : Calls Tryd.prog 42 #[arg] w fun e w' => ∃ v', e = .returned v' ∧ w'.ownsRow w.heap.size 9 1 v' n (ss.map encStr) ∧ v' ≠ .slice none 0 0 ∧ Below w.heap.size w w') :
    Calls Tryd.prog 26 #[arg] w fun e w' => ∃ g cap, e = .returned (.slice (some ⟨g, 0, none⟩) (so ss).length cap) ∧ w'.ownsRow w.heap.size 9 1 (.slice (some ⟨g, 0, none⟩) (so ss).length cap) (so ss).length ((so ss).map encStr) ∧ Below w.heap.size w w' := by
  go_enter Tryd.func26, Tryd.ntmps26
  go_wp2_with fail
  refine hclone.mono ?_
  rintro e w1 ⟨v1, rfl, hown, hnn, hbel⟩
  obtain ⟨g, cap, rfl, hbg, hgl, hncap, hcm, hlen, hH⟩ := Lib.holds_of_ownsRow hown hnn
  have hsort := Tryd.slices_Sort_string g 0 cap ss w1 hH hgl (by omega)
  rw [hlen] at hsort
  clear hnn
  go_wp2_with fail
  refine hsort.mono ?_
  rintro e w2 ⟨rfl, nn, os, rfl⟩
  have hl2 : (ss.mergeSort fun x y => decide (x ≤ y)).length = n := by rw [List.length_mergeSort]; exact hlen
  have hH2 : Holds encStr (grow (putRow encStr (Sort.ahead w1 nn) g 0 (ss.mergeSort fun x y => decide (x ≤ y)).toArray) os) g 0 (ss.mergeSort fun x y => decide (x ≤ y)).toArray :=
    holds_grow encStr _ os g 0 _ (by simpa [putRow, mapBlock, Sort.ahead] using hgl) (holds_putRow encStr _ g 0 _ _ (holds_ahead encStr w1 nn g 0 _ hH) (by simp))
  have hcomp0 := Tryd.slices_Compact_string g 0 cap (ss.mergeSort fun x y => decide (x ≤ y)) _ hH2 (by omega) (by omega)
  rw [hl2] at hcomp0
  have hfin := fun q => sorted_row (nn := nn) (os := os) (q := q) hown hbel hlen
  clear hH2 hsort hH hown hbel
  generalize grow (putRow encStr (Sort.ahead w1 nn) g 0 (ss.mergeSort fun x y => decide (x ≤ y)).toArray) os = w2 at hcomp0 hfin ⊢
  have hcomp : Calls Tryd.prog 44 #[.slice (some ⟨g, 0, none⟩) n cap] w2 fun e w' => e = .returned (.slice (some ⟨g, 0, none⟩) (so ss).length cap) ∧ w'.ownsRow w.heap.size 9 1 (.slice (some ⟨g, 0, none⟩) (so ss).length cap) (so ss).length ((so ss).map encStr) ∧ Below w.heap.size w w' :=
    hcomp0.mono fun e w' ⟨he, q, hw⟩ => ⟨he, by rw [hw]; exact (hfin q).1, by rw [hw]; exact (hfin q).2⟩
  have hsm' : ∀ x ∈ so ss, x.length ≤ 1000000 := fun x hx => hsm x ((so_spec ss).2 x |>.1 hx)
  have hle : (so ss).length ≤ 100000 := Nat.le_trans (so_len ss) (by omega)
  clear hcomp0 hfin hl2 hsm
  obtain ⟨K, hK⟩ : ∃ K, K = so ss := ⟨_, rfl⟩
  rw [← hK] at hcomp hsm' hle
  have HK := hide' hK
  clear hK
  go_wp2_with fail
  refine hcomp.mono ?_
  rintro e w3 ⟨rfl, hrow, hB⟩
  clear hcomp
  go_wp2
  go_loopw [14] (fun i wr => ∃ k : Nat, k ≤ K.length ∧ i = .int .i64 k ∧ wr.ownsRow w.heap.size 9 1 (.slice (some ⟨g, 0, none⟩) K.length cap) K.length (K.map encStr) ∧ Below w.heap.size w wr) (fun i _ => K.length - (intOf i).toNat)
  case atStart => exact ⟨0, Nat.zero_le _, rfl, hrow, hB⟩
  case round =>
    clear hrow hB
    obtain ⟨k, hk, rfl, hrow, hB⟩ := hrel
    by_cases hlt : k < K.length
    · have hx0 : (K.map encStr)[k]? = some (encStr K[k]) := by simp [hlt]
      have hsz : (ba K[k]).size ≤ 281474976710656 := by
        have := hsm' K[k] (List.getElem_mem hlt)
        show K[k].toArray.size ≤ _
        rw [List.size_toArray]
        omega
      have hc0 : wr.cell? ⟨g, k, none⟩ = some (.string (ba K[k])) := by
        have := hrow.cells (g := g) rfl k _ hx0
        have e : (⟨g, 0, none⟩ : Addr).add k = ⟨g, 0 + k, none⟩ := by unfold Addr.add; split <;> simp_all
        rw [e, Nat.zero_add] at this
        exact this
      have hx1 : (K.map encStr)[k]? = some (.string (ba K[k])) := hx0
      have HX := hide' hx1
      clear hx0 hx1
      generalize ba K[k] = x at hsz hc0 HX
      obtain ⟨hgl', hfz⟩ := row_block hrow
      have hlk : k < cap := by have := (row_cap hrow).1; omega
      go_wp2_with (go_at_call 34; refine (clone_any _ _ hsz).mono ?_; rintro e w4 ⟨rfl, hb4⟩; have hrow4 := row_below hrow hb4; have hc4 := (hb4.cell (p := ⟨g, k, none⟩) hgl').trans hc0; have hf4 := (row_block hrow4).2 k)
      exact ⟨⟨k + 1, by omega, by go_num, row_same hrow4 HX.out, (hB.trans (hb4.mono hB.size)).setCell (p := ⟨g, k, none⟩) hbg _⟩, by simp [intOf]; omega⟩
    · go_wp2
      go_ret
      rw [← HK.out]
      exact ⟨g, cap, rfl, hrow, hB⟩

/-- text.Sort at a list of texts -/
theorem sort_any (L : List ByteArray) (b off cap : Nat) (w : World) (hl : L.length ≤ 100000) (hx : ∀ x ∈ L, x.size ≤ 1000000) (hc : ∀ j, j < L.length → w.cell? ⟨b, off + j, none⟩ = some (.string (L.getD j ⟨#[]⟩))) :
    Calls Tryd.prog 26 #[.slice (some ⟨b, off, none⟩) L.length cap] w fun e w' => ∃ (g cap' : Nat) (K : List ByteArray), K.map tl = so (L.map tl) ∧ e = .returned (.slice (some ⟨g, 0, none⟩) K.length cap') ∧ w'.ownsRow w.heap.size 9 1 (.slice (some ⟨g, 0, none⟩) K.length cap') K.length (K.map Value.string) ∧ Below w.heap.size w w' := by
  have hcl := Tryd.slices_Clone_string b off L.length cap L w (Nat.le_refl _) (by omega) hc
  rw [List.take_length, ← enc_tl] at hcl
  refine (sort_core L.length _ (L.map tl) w hl (fun x hx' => ?_) hcl).mono ?_
  · obtain ⟨y, hy, rfl⟩ := List.mem_map.1 hx'
    rw [show (tl y).length = y.size from (Lib.size_eq y).symm]
    exact hx y hy
  · rintro e w' ⟨g, cap', rfl, hrow, hb⟩
    refine ⟨g, cap', (so (L.map tl)).map ba, map_tl_ba _, by rw [List.length_map], ?_, hb⟩
    rw [List.length_map, ← enc_ba]
    exact hrow
end Go.Proofs.YtjfbnjajekedlaaDoor
