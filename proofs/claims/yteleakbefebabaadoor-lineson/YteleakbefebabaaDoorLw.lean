/- The contract of the law LinesWhole: it answers true whatever the text is. -/
import Derived.Test.YteleakbefebabaaDoorAl
namespace Go.Proofs.YteleakbefebabaaDoor
open Go.RowKit Go.Shelf

theorem szs_of {L : List ByteArray} (h : tot (L.map tl) ≤ 1000000) : Szs L := by
  refine ⟨?_, fun j => ?_, h⟩
  · have := tot_len (L.map tl)
    rw [List.length_map] at this
    omega
  · by_cases hj : j < L.length
    · rw [List.getD_eq_getElem?_getD, List.getElem?_eq_getElem hj]
      have := tot_mem (List.mem_map_of_mem (f := tl) (List.getElem_mem hj))
      rw [tl_len] at this
      exact Nat.le_trans this h
    · rw [List.getD_eq_getElem?_getD, List.getElem?_eq_none (by omega)]
      exact Nat.zero_le _
theorem kind_zero (L : List (List UInt8)) (j : Nat) (t : List UInt8) (h : kindP (rawK L j) t = 0) : textP (rawK L j) t = [] := by
  unfold kindP at h
  unfold textP
  have hk : rawK L j ≠ 0 := by unfold rawK; split <;> decide
  cases hb : isBlank (if rawK L j = 2 then bare t else t) with
  | true => rfl
  | false => rw [hb] at h; exact absurd h hk

set_option maxHeartbeats 400000 in
theorem lwhole_long (s : ByteArray) (w : World) (hs : 20000 < s.size) (hm : s.size ≤ maxLen) :
    Calls Tryd.prog 4 #[.string s] w fun e w' => e = .returned (.bool true) ∧ Below w.heap.size w w' := by
  unfold maxLen at hm
  go_enter Tryd.func4, Tryd.ntmps4
  go_wp2_with (go_at_call 6; refine (alive_any _).mono ?_; rintro e w1 ⟨rfl, hb1⟩)
  go_ret
  exact ⟨rfl, hb1⟩

set_option maxRecDepth 100000 in
set_option maxHeartbeats 1000000 in
theorem lwhole_main (s : ByteArray) (w : World) (hs : s.size ≤ 20000) :
    Calls Tryd.prog 4 #[.string s] w fun e w' => e = .returned (.bool true) ∧ Below w.heap.size w w' := by
  go_enter Tryd.func4, Tryd.ntmps4
  go_wp2_with fail
  refine (alive_any _).mono ?_
  rintro e w1 ⟨rfl, hb1⟩
  go_wp2_with fail
  refine (split_any s (by omega) _).mono ?_
  rintro e w2 ⟨v, L, rfl, hL, hrow, hb2⟩
  have hB2 : Below w.heap.size w w2 := hb1.trans (hb2.mono hb1.size)
  have hz : Szs L := szs_of (by rw [hL]; have := phys_tot (tl s); rw [tl_len] at this; omega)
  have hS := Strs.of_row hrow
  obtain ⟨al, cl, rfl, hcl, hTx, hal⟩ := hS.txt
  have HZ := hide' hz
  have hll := hz.len
  have HAL := hide' hal
  clear hrow hS hL hz hal hb1 hb2
  go_wp2
  go_loopw [5] (fun i wr => ∃ k : Nat, i = .int .i64 k ∧ k ≤ L.length ∧ Hid (Txt wr al L) ∧ Below w.heap.size w wr) (fun i _ => L.length - (intOf i).toNat)
  case atStart => exact ⟨0, rfl, Nat.zero_le _, hTx, hB2⟩
  case round =>
    obtain ⟨k, rfl, hk, HT, hB⟩ := hrel
    have hsz := hB.size
    by_cases hlt : k < L.length
    · obtain ⟨b, off, rfl⟩ := HAL.out (by omega)
      have kn := next_some L b off cl k wr HZ.out HT.out hlt hcl
      have hj1 := jn_le ((L.map tl).drop k)
      have hj2 := jn_pos (l := (L.map tl).drop k) (by rw [List.length_drop, List.length_map]; omega)
      rw [List.length_drop, List.length_map] at hj1
      have hkz := kind_zero (L.map tl) k (rawT (L.map tl) k)
      obtain ⟨n, hn⟩ : ∃ n, n = (jn ((L.map tl).drop k)).length := ⟨_, rfl⟩
      obtain ⟨kk, hkk⟩ : ∃ kk, kk = kindP (rawK (L.map tl) k) (rawT (L.map tl) k) := ⟨_, rfl⟩
      obtain ⟨tt, htt⟩ : ∃ tt, tt = textP (rawK (L.map tl) k) (rawT (L.map tl) k) := ⟨_, rfl⟩
      rw [← hn] at kn hj1 hj2
      rw [← hkk, ← htt] at kn hkz
      have HKZ := hide' hkz
      clear hn hkk htt hkz
      have g1 : ¬ ((k : Int) + n ≤ k) := by omega
      have g2 : ¬ ((L.length : Int) < (k : Int) + n) := by omega
      go_wp2_with fail
      refine kn.mono ?_
      rintro e w3 ⟨rfl, hb3⟩
      have HT3 := hide' (HT.out.below hb3)
      have hB3 : Below w.heap.size w w3 := hB.trans (hb3.mono hsz)
      clear kn HT
      by_cases hk0 : kk = 0
      · have htt := HKZ.out hk0
        subst hk0 htt
        go_wp2
        exact ⟨⟨k + n, by go_num, by omega, HT3.out.below ((Below.refl _ _).alloc (Nat.le_refl _) _), hB3.alloc hB3.size _⟩, by simp [intOf]; omega⟩
      · have d1 : ((kk : Int) == 0) = false := beq_eq_false_iff_ne.2 (by omega)
        have d2 : ¬ (kk : Int) = 0 := by omega
        have HK0 := hide' hk0
        clear HKZ hk0
        go_wp2
        exact ⟨⟨k + n, by go_num, by omega, HT3.out.below ((Below.refl _ _).alloc (Nat.le_refl _) _), hB3.alloc hB3.size _⟩, by simp [intOf]; omega⟩
    · obtain rfl : k = L.length := by omega
      have kn := next_none L al cl L.length wr (.inr (Int.le_refl _))
      clear HT HAL HZ hTx
      go_wp2_with fail
      refine kn.mono ?_
      rintro e w3 ⟨rfl, hb3⟩
      have hB3 : Below w.heap.size w w3 := hB.trans (hb3.mono hsz)
      go_wp2
      go_ret
      exact ⟨rfl, hB3.alloc hB3.size _⟩

theorem lwhole_any (s : ByteArray) (w : World) (hs : s.size ≤ maxLen) :
    Calls Tryd.prog 4 #[.string s] w fun e w' => e = .returned (.bool true) ∧ Below w.heap.size w w' := by
  by_cases h1 : s.size ≤ 20000
  · exact lwhole_main s w h1
  · exact lwhole_long s w (by omega) hs
end Go.Proofs.YteleakbefebabaaDoor
