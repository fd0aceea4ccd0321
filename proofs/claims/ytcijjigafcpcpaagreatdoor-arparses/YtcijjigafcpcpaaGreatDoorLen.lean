/- The contracts of ar.even, ar.long, ar.length. -/
import Derived.Test.YtcijjigafcpcpaaGreatDoorAr
namespace Go.Proofs.YtcijjigafcpcpaaGreatDoor
open Go.RowKit Go.Maps

theorem ival {a b : Int} (h : a = b) : Value.int .i64 a = .int .i64 b := by rw [h]
theorem even_any (n : Nat) (h : n ≤ 1099511627776) (w : World) : Calls Tryz.prog 48 #[.int .i64 n] w fun r w' => r = .returned (.int .i64 (evn n : Nat)) ∧ w' = w := by
  have h1 : ((n : Int).tmod 2) = (n % 2 : Nat) := by rw [Int.tmod_eq_emod_of_nonneg (by omega)]; omega
  go_enter Tryz.func48, Tryz.ntmps48
  go_wp2
  go_ret
  refine ⟨ret_int ?_, rfl⟩
  unfold evn
  omega
theorem long_any (s : ByteArray) (w : World) : Calls Tryz.prog 39 #[.string s] w fun r w' => r = .returned (.bool (lng (tl s))) ∧ w' = w := by
  go_enter Tryz.func39, Tryz.ntmps39
  go_wp2
  go_ret
  refine ⟨ret_bool ?_, rfl⟩
  unfold lng
  rw [tl_len]
  simp only [decide_eq_decide]
  omega
set_option maxRecDepth 100000 in
set_option maxHeartbeats 2000000 in
theorem length_row (g o cap : Nat) (ms : List Mv) (w : World) (h : MRow w g o ms) (hr : ∀ m ∈ ms, Rds w m.dv m.data) (hl : ms.length ≤ 1099511627776) (hA : lenA ms ≤ 1099511627776) :
    Calls Tryz.prog 34 #[.slice (some ⟨g, o, none⟩) ms.length cap] w fun r w' => r = .returned (.int .i64 (lenA ms : Nat)) ∧ Below w.heap.size w w' := by
  have hD := sumM_take_le wtD ms
  have hT := sumM_take_le wtT ms
  go_enter Tryz.func34, Tryz.ntmps34
  go_wp2
  go_loopw [3, 4, 6, 9] (fun a b _ i wr => ∃ k : Nat, k ≤ ms.length ∧ i = .int .i64 k ∧ a = .int .i64 ((8 + sumM wtD (ms.take k) : Nat) : Int) ∧ b = .int .i64 (sumM wtT (ms.take k) : Nat) ∧ Below w.heap.size w wr) (fun _ _ _ i _ => ms.length - (intOf i).toNat)
  case atStart => exact ⟨0, by omega, rfl, rfl, rfl, Below.refl _ _⟩
  case round =>
    obtain ⟨k, hk, rfl, rfl, rfl, hB⟩ := hrel
    by_cases hkl : k < ms.length
    · have k1 : (k : Int) < ms.length := by omega
      obtain ⟨m, hm⟩ : ∃ m, ms[k]? = some m := ⟨_, List.getElem?_eq_getElem hkl⟩
      have hR := h.below hB
      have d0 := hR.c0 k m hm
      have d1 := hR.c1 k m hm
      have d2 := hR.c2 k m hm
      have hmem := List.mem_of_getElem? hm
      obtain ⟨da, dc, hdv⟩ := (hr m hmem).len
      rw [hdv] at d2
      have hs1 := sumM_take wtD hm
      have hs2 := sumM_take wtT hm
      have hb1 := hD (k + 1)
      have hb2 := hT (k + 1)
      have hb3 : sumM wtD ms ≤ 1099511627776 ∧ sumM wtT ms ≤ 1099511627776 := by
        unfold lenA at hA
        unfold evn at hA
        split at hA <;> omega
      have hwd : wtD m = 60 + evn m.data.length := rfl
      have hml : m.data.length ≤ evn m.data.length := by unfold evn; omega
      have qe := fun w => even_any m.data.length (by omega) w
      have ql := fun w => long_any (mk m.name) w
      rw [tl_mk] at ql
      obtain ⟨x, hx⟩ : ∃ x, x = sumM wtD (ms.take k) := ⟨_, rfl⟩
      obtain ⟨y, hy⟩ : ∃ y, y = sumM wtT (ms.take k) := ⟨_, rfl⟩
      obtain ⟨e, he⟩ : ∃ e, e = evn m.data.length := ⟨_, rfl⟩
      have hst : ∀ t, t = wtT m → 8 + sumM wtD (ms.take (k + 1)) = 8 + (x + (60 + e)) ∧ sumM wtT (ms.take (k + 1)) = y + t := fun t ht => by rw [hs1, hs2, hwd, ht, hx, hy, he]; exact ⟨rfl, rfl⟩
      have HS := hide' hst
      rw [← hx, ← hy]
      rw [← he] at qe
      have hxe : x + (60 + e) ≤ 1099511627776 := by rw [hs1, hwd, ← hx, ← he] at hb1; omega
      have hyb : y + wtT m ≤ 1099511627776 := by rw [hs2, ← hy] at hb2; omega
      have hwt : wtT m = if lng m.name then m.name.length + 2 else 0 := rfl
      have HB := hide' hB
      clear hR h hr hD hT hs1 hs2 hb1 hb2 hb3 hwd hml hst hx hy he hA hB hm hmem
      cases hlg : lng m.name with
      | false =>
        rw [hlg] at ql hwt
        go_wp2_with fail
        refine (qe _).mono ?_
        rintro r w1 ⟨rfl, rfl⟩
        go_wp2_with fail
        refine (ql _).mono ?_
        rintro r w1 ⟨rfl, rfl⟩
        have hs := HS.out 0 (by rw [hwt]; rfl)
        have HS2 := hide' hs
        clear hs HS
        go_wp2
        exact ⟨⟨k + 1, by omega, by simp, ival (by rw [HS2.out.1]; omega), ival (by rw [HS2.out.2]; omega), HB.out.alloc HB.out.size _⟩, by simp [intOf]; omega⟩
      | true =>
        rw [hlg] at ql hwt
        rw [if_pos rfl] at hwt
        rw [hwt] at hyb
        go_wp2_with fail
        refine (qe _).mono ?_
        rintro r w1 ⟨rfl, rfl⟩
        go_wp2_with fail
        refine (ql _).mono ?_
        rintro r w1 ⟨rfl, rfl⟩
        have hs := HS.out _ hwt.symm
        have HS2 := hide' hs
        clear hs HS
        go_wp2
        exact ⟨⟨k + 1, by omega, by simp, ival (by rw [HS2.out.1]; omega), ival (by rw [HS2.out.2]; omega), HB.out.alloc HB.out.size _⟩, by simp [intOf]; omega⟩
    · obtain rfl : k = ms.length := by omega
      have k1 : ¬ (ms.length : Int) < ms.length := by omega
      rw [List.take_length]
      have hLA : lenA ms = 8 + sumM wtD ms + (if 0 < sumM wtT ms then 60 + evn (sumM wtT ms) else 0) := rfl
      clear hD hT h hr
      generalize sumM wtD ms = x at *
      generalize sumM wtT ms = y at *
      by_cases hy : 0 < y
      · rw [if_pos hy] at hLA
        have hye : y ≤ evn y := by unfold evn; omega
        have qe := fun w => even_any y (by omega) w
        generalize evn y = e at *
        go_wp2_with fail
        refine (qe _).mono ?_
        rintro r w1 ⟨rfl, rfl⟩
        go_wp2
        go_ret
        exact ⟨ret_int (by omega), hB⟩
      · rw [if_neg hy] at hLA
        have hy2 : ¬ (0 : Int) < y := by omega
        go_wp2
        go_ret
        exact ⟨ret_int (by omega), hB⟩
set_option maxRecDepth 100000 in
theorem length_nil (a : Option Addr) (c : Nat) (w : World) : Calls Tryz.prog 34 #[.slice a 0 c] w fun r w' => r = .returned (.int .i64 8) ∧ w' = w := by
  go_enter Tryz.func34, Tryz.ntmps34
  go_wp2
  go_loopw [3, 4, 6, 9] (fun a b _ i wr => i = .int .i64 0 ∧ a = .int .i64 8 ∧ b = .int .i64 0 ∧ wr = w) (fun _ _ _ _ _ => 0)
  case atStart => exact ⟨rfl, rfl, rfl, rfl⟩
  case round =>
    obtain ⟨rfl, rfl, rfl, rfl⟩ := hrel
    go_wp2
    go_ret
    exact ⟨rfl, rfl⟩
theorem length_any (v : Value) (ms : List Mv) (w : World) (h : Mems w v ms) (hl : ms.length ≤ 1099511627776) (hA : lenA ms ≤ 1099511627776) :
    Calls Tryz.prog 34 #[v] w fun r w' => r = .returned (.int .i64 (lenA ms : Nat)) ∧ Below w.heap.size w w' := by
  rcases h with ⟨⟨a, c, rfl⟩, rfl⟩ | ⟨g, o, cap, rfl, h0, h1, h2⟩
  · exact (length_nil a c w).mono fun r w' ⟨hr, hw⟩ => ⟨hr, by rw [hw]; exact Below.refl _ _⟩
  · exact length_row g o cap ms w h1 h2 hl hA
end Go.Proofs.YtcijjigafcpcpaaGreatDoor
