/- The contract of text.Sort: a new list of the texts of its list, rising, each once. -/
import Derived.Test.YtnhheljgjemfoaaDoorShelfS
import Derived.Test.YtnhheljgjemfoaaDoorSortPlain
import Derived.Test.YtnhheljgjemfoaaDoorLent
import Derived.Test.YtnhheljgjemfoaaDoorCps
import Derived.Sort.OwnSorted
import Derived.Sort.Grow
import Derived.Lib.OwnBridge
namespace Go.Proofs.YtnhheljgjemfoaaDoor
open Go.RowKit Go.Shelf Go.Sort

/-- texts as byte arrays -/
def ba (l : Bs) : ByteArray := ⟨l.toArray⟩
theorem tl_ba (l : Bs) : tl (ba l) = l := rfl
theorem map_tl_ba (K : List Bs) : (K.map ba).map tl = K := by
  rw [List.map_map]
  exact (List.map_congr_left fun x _ => rfl).trans (List.map_id K)
theorem ba_tl (x : ByteArray) : ba (tl x) = x := by obtain ⟨⟨a⟩⟩ := x; rfl
theorem enc_tl (L : List ByteArray) : (L.map tl).map encStr = L.map Value.string := by
  rw [List.map_map]
  exact List.map_congr_left fun x _ => by show encStr (tl x) = _; rw [show encStr (tl x) = Value.string (ba (tl x)) from rfl, ba_tl]
theorem enc_ba (K : List Bs) : K.map encStr = (K.map ba).map Value.string := by rw [← enc_tl, map_tl_ba]

/-- behind Clone, Sort and Compact -/
theorem sorted_row {w w1 : World} {g cap n nn q : Nat} {os : Array Obj} {ss : List Bs} (hown : w1.ownsRow w.heap.size 9 1 (.slice (some ⟨g, 0, none⟩) n cap) n (ss.map encStr)) (hbel : Below w.heap.size w w1) (hlen : ss.length = n) :
    (putRow encStr (Sort.ahead (grow (putRow encStr (Sort.ahead w1 nn) g 0 (ss.mergeSort fun x y => decide (x ≤ y)).toArray) os) q) g 0 (so ss ++ List.replicate (n - (so ss).length) []).toArray).ownsRow w.heap.size 9 1 (.slice (some ⟨g, 0, none⟩) (so ss).length cap) (so ss).length ((so ss).map encStr) ∧
      Below w.heap.size w (putRow encStr (Sort.ahead (grow (putRow encStr (Sort.ahead w1 nn) g 0 (ss.mergeSort fun x y => decide (x ≤ y)).toArray) os) q) g 0 (so ss ++ List.replicate (n - (so ss).length) []).toArray) := by
  have hl2 : (ss.mergeSort fun x y => decide (x ≤ y)).length = ss.length := List.length_mergeSort ss
  have hle := so_len ss
  subst hlen
  rcases hown.2 with ⟨h0, _⟩ | ⟨g', cap', cur, hv, hbase, hb, h1, h2, h3, h4⟩
  · cases h0
  cases hv
  have hs := ownsRow_sorted (n := nn) (os := os) (ts := ss.mergeSort fun x y => decide (x ≤ y)) hl2 hbase hb h1 h2 h3
  have hc := Lib.ownsRow_putRow (q := q) (k := (so ss).length) (ys := so ss ++ List.replicate (ss.length - (so ss).length) []) hs (by simp; omega) (by omega)
  rw [List.take_left] at hc
  exact ⟨hc, Lib.below_putRow (hbel.grown (grownBy_sorted _) hbel.size (fun j hj => by cases hj; exact hbase)) hbase⟩

theorem row_block {W : World} {base : Nat} {g cap n : Nat} {xs : List Value} (h : W.ownsRow base 9 1 (.slice (some ⟨g, 0, none⟩) n cap) n xs) : g < W.heap.size ∧ ∀ k, W.frozen? ⟨g, k, none⟩ = false := by
  rcases h.2 with ⟨h0, _⟩ | ⟨g', cap', cur, hv, hbase, hb, h1, h2, h3, h4⟩
  · cases h0
  · cases hv
    exact ⟨(Array.getElem?_eq_some_iff.1 hb).1, fun k => Lib.frozen_of_heap hb k⟩

set_option maxRecDepth 100000 in
set_option maxHeartbeats 2000000 in
theorem sort_core (n : Nat) (arg : Value) (ss : List Bs) (w : World) (hn : n ≤ 100000) (hsm : ∀ x ∈ ss, x.length ≤ 1000000)
    (hclone : Calls Tryd.prog 17 #[arg] w fun e w' => ∃ v', e = .returned v' ∧ w'.ownsRow w.heap.size 9 1 v' n (ss.map encStr) ∧ v' ≠ .slice none 0 0 ∧ Below w.heap.size w w') :
    Calls Tryd.prog 7 #[arg] w fun e w' => ∃ v, e = .returned v ∧ w'.ownsRow w.heap.size 9 1 v (so ss).length ((so ss).map encStr) ∧ Below w.heap.size w w' := by
  go_enter Tryd.func7, Tryd.ntmps7
  go_wp2_with fail
  refine hclone.mono ?_
  rintro e w1 ⟨v1, rfl, hown, hnn, hbel⟩
  obtain ⟨g, cap, rfl, hbg, hgl, hncap, hcm, hlen, hH⟩ := Lib.holds_of_ownsRow hown hnn
  have hsort := Tryd.slices_Sort_string g 0 cap ss w1 hH hgl (by omega)
  rw [hlen] at hsort
  clear hnn
  go_wp2_with fail
  refine hsort.mono ?_
  rintro e w2 ⟨rfl, nn, os, rfl⟩
  have hl2 : (ss.mergeSort fun x y => decide (x ≤ y)).length = n := by rw [List.length_mergeSort]; exact hlen
  have hH2 : Holds encStr (grow (putRow encStr (Sort.ahead w1 nn) g 0 (ss.mergeSort fun x y => decide (x ≤ y)).toArray) os) g 0 (ss.mergeSort fun x y => decide (x ≤ y)).toArray :=
    holds_grow encStr _ os g 0 _ (by simpa [putRow, mapBlock, Sort.ahead] using hgl) (holds_putRow encStr _ g 0 _ _ (holds_ahead encStr w1 nn g 0 _ hH) (by simp))
  have hcomp0 := Tryd.slices_Compact_string g 0 cap (ss.mergeSort fun x y => decide (x ≤ y)) _ hH2 (by omega) (by omega)
  rw [hl2] at hcomp0
  have hfin := fun q => sorted_row (nn := nn) (os := os) (q := q) hown hbel hlen
  clear hH2 hsort hH hown hbel
  generalize grow (putRow encStr (Sort.ahead w1 nn) g 0 (ss.mergeSort fun x y => decide (x ≤ y)).toArray) os = w2 at hcomp0 hfin ⊢
  have hcomp : Calls Tryd.prog 20 #[.slice (some ⟨g, 0, none⟩) n cap] w2 fun e w' => e = .returned (.slice (some ⟨g, 0, none⟩) (so ss).length cap) ∧ w'.ownsRow w.heap.size 9 1 (.slice (some ⟨g, 0, none⟩) (so ss).length cap) (so ss).length ((so ss).map encStr) ∧ Below w.heap.size w w' :=
    hcomp0.mono fun e w' ⟨he, q, hw⟩ => ⟨he, by rw [hw]; exact (hfin q).1, by rw [hw]; exact (hfin q).2⟩
  have hsm' : ∀ x ∈ so ss, x.length ≤ 1000000 := fun x hx => hsm x ((so_spec ss).2 x |>.1 hx)
  have hle : (so ss).length ≤ 100000 := Nat.le_trans (so_len ss) (by omega)
  clear hcomp0 hfin hl2 hsm
  obtain ⟨K, hK⟩ : ∃ K, K = so ss := ⟨_, rfl⟩
  rw [← hK] at hcomp hsm' hle
  have HK := hide' hK
  clear hK
  obtain ⟨kn, hkn⟩ : ∃ kn, kn = K.length := ⟨_, rfl⟩
  have HKN := hide' hkn
  have kc : ∀ w3, w3.ownsRow w.heap.size 9 1 (.slice (some ⟨g, 0, none⟩) kn cap) kn (K.map encStr) → Below w.heap.size w w3 → Calls Tryd.prog 19 #[.slice (some ⟨g, 0, none⟩) kn cap] w3 fun e w' => ∃ v, e = .returned v ∧ w'.ownsRow w.heap.size 9 1 v kn (K.map encStr) ∧ Below w.heap.size w w' := fun w3 hr hB => by
    have hc := hr.cells (g := g) rfl
    have h1 := copies_some (K.map ba) g 0 cap w3 (by rw [List.length_map]; omega) (row_block hr).1 (fun x hx => by obtain ⟨y, hy, rfl⟩ := List.mem_map.1 hx; have := hsm' y hy; show y.toArray.size ≤ _; rw [List.size_toArray]; omega) (fun j hj => by
      rw [List.length_map] at hj
      have h2 := hc j (encStr K[j]) (by simp [hj])
      have e : (⟨g, 0, none⟩ : Addr).add j = ⟨g, 0 + j, none⟩ := by unfold Addr.add; split <;> simp_all
      rw [e] at h2
      rw [h2, List.getD_eq_getElem?_getD, List.getElem?_map, List.getElem?_eq_getElem hj]; rfl)
    rw [List.length_map, ← hkn] at h1
    refine h1.mono ?_
    rintro e w' ⟨v, he, ho, hb⟩
    refine ⟨v, he, ?_, hB.trans (hb.mono hB.size)⟩
    have e2 : ((K.map ba).map cpB).map Value.string = K.map encStr := by rw [List.map_map, List.map_map]; rfl
    rw [e2] at ho
    exact row_mono ho hB.size
  rw [← hkn] at hcomp hle
  clear hkn hsm'
  go_wp2_with fail
  refine hcomp.mono ?_
  rintro e w3 ⟨rfl, hrow, hB⟩
  have q := kc w3 hrow hB
  clear hcomp kc hrow
  go_wp2_with fail
  refine q.mono ?_
  rintro e w4 ⟨v, rfl, hrow4, hB4⟩
  have HR := hide' hrow4
  clear q hrow4
  go_wp2
  go_ret
  rw [← HK.out, ← HKN.out]
  exact ⟨v, rfl, HR.out, hB4⟩
/-- text.Sort of nil -/
theorem sort_nil (w : World) : Calls Tryd.prog 7 #[.slice none 0 0] w fun e w' => e = .returned (.slice none 0 0) ∧ w' = w := by
  go_enter Tryd.func7, Tryd.ntmps7
  go_wp2_with fail
  refine (Tryd.slices_Clone_string_nil 0 0 w).mono ?_
  rintro e w1 ⟨rfl, rfl⟩
  go_wp2_with fail
  refine (Tryd.slices_Sort_string_none none 0 _).mono ?_
  rintro e w2 ⟨rfl, rfl⟩
  go_wp2_with fail
  refine (Tryd.slices_Compact_string_empty none 0 _).mono ?_
  rintro e w3 ⟨rfl, rfl⟩
  go_wp2_with fail
  refine (copies_nil none 0 _).mono ?_
  rintro e w4 ⟨rfl, rfl⟩
  go_wp2
  go_ret
  exact ⟨rfl, rfl⟩

/-- text.Sort at a list of texts -/
theorem sort_any (L : List ByteArray) (b off cap : Nat) (w : World) (hl : L.length ≤ 100000) (hx : ∀ x ∈ L, x.size ≤ 1000000) (hc : ∀ j, j < L.length → w.cell? ⟨b, off + j, none⟩ = some (.string (L.getD j ⟨#[]⟩))) :
    Calls Tryd.prog 7 #[.slice (some ⟨b, off, none⟩) L.length cap] w fun e w' => ∃ (v : Value) (K : List ByteArray), K.map tl = so (L.map tl) ∧ e = .returned v ∧ w'.ownsRow w.heap.size 9 1 v K.length (K.map Value.string) ∧ Below w.heap.size w w' := by
  have hcl := Tryd.slices_Clone_string b off L.length cap L w (Nat.le_refl _) (by omega) hc
  rw [List.take_length, ← enc_tl] at hcl
  refine (sort_core L.length _ (L.map tl) w hl (fun x hx' => ?_) hcl).mono ?_
  · obtain ⟨y, hy, rfl⟩ := List.mem_map.1 hx'
    rw [show (tl y).length = y.size from (Lib.size_eq y).symm]
    exact hx y hy
  · rintro e w' ⟨v, rfl, hrow, hb⟩
    refine ⟨v, (so (L.map tl)).map ba, map_tl_ba _, rfl, ?_, hb⟩
    rw [List.length_map, ← enc_ba]
    exact hrow
/-- .. of a list that reads as texts -/
theorem sort_strs (L : List ByteArray) (v : Value) (w : World) (hl : L.length ≤ 100000) (hx : ∀ x ∈ L, x.size ≤ 1000000) (h : Strs w v L) :
    Calls Tryd.prog 7 #[v] w fun e w' => ∃ (v' : Value) (K : List ByteArray), K.map tl = so (L.map tl) ∧ e = .returned v' ∧ w'.ownsRow w.heap.size 9 1 v' K.length (K.map Value.string) ∧ Below w.heap.size w w' := by
  rcases h with ⟨rfl, rfl⟩ | ⟨b, off, cap, rfl, _, _, _, hc⟩
  · refine (sort_nil w).mono ?_
    rintro e w' ⟨rfl, rfl⟩
    exact ⟨_, [], (List.eq_nil_iff_forall_not_mem.2 fun x hx => by simpa using ((so_spec []).2 x).1 hx).symm, rfl, World.ownsRow_nil _ _ _ _, Below.refl _ _⟩
  · exact sort_any L b off cap w hl hx hc
end Go.Proofs.YtnhheljgjemfoaaDoor
