/- The contract of the library's ParseUint at base 10 and 62 bits, of a text of at most 16 bytes. -/
import Derived.Test.YtcijjigafcpcpaaGreatDoorPz
import Derived.Lib.ConvBytes
namespace Go.Proofs.YtcijjigafcpcpaaGreatDoor
open Go.RowKit Go.Maps

def low (c : UInt8) : Int := bits BinOp.or IntKind.u8 c.toNat 32
theorem lower_any (c : UInt8) (w : World) : Calls Tryz.prog 88 #[.int .u8 c.toNat] w fun r w' => r = .returned (.int .u8 (low c)) ∧ w' = w := by
  go_enter Tryz.func88, Tryz.ntmps88
  go_wp2
  go_ret
  exact ⟨rfl, rfl⟩
theorem below_bytes (w : World) (s : ByteArray) : Below w.heap.size w (Lib.bytesWorld w 5 s) := ⟨rfl, rfl, rfl, by rw [Lib.bytesWorld_size]; omega, fun k hk => Lib.bytesWorld_at_old w 5 s k hk⟩
/-- behind the loop -/
def PuR (s : Bs) (r : Ending) : Prop := (∃ n, valP s = some n ∧ r = .returned (.tuple #[.int .u64 n, .nilIface])) ∨ (valP s = none ∧ r = .returned (.tuple #[.int .u64 0, .iface 138 (.int .i64 2)]))
theorem valP_bad (s : Bs) (k : Nat) (h : k < s.length) (hd : ¬ dgt (s.getD k 0)) : valP s = none := by
  unfold valP
  split
  · rfl
  · rw [if_neg]
    intro ha
    refine hd ((dgtB_iff _).1 (List.all_eq_true.1 ha _ ?_))
    rw [List.getD_eq_getElem?_getD, List.getElem?_eq_getElem h]
    exact List.getElem_mem h
theorem valP_good (s : Bs) (h0 : 0 < s.length) (hd : ∀ j, j < s.length → dgt (s.getD j 0)) : valP s = some (numF 0 s) := by
  unfold valP
  rw [if_neg (List.length_pos_iff.1 h0), if_pos]
  refine List.all_eq_true.2 fun c hc => (dgtB_iff c).2 ?_
  obtain ⟨j, hj, rfl⟩ := List.getElem_of_mem hc
  have := hd j hj
  rw [List.getD_eq_getElem?_getD, List.getElem?_eq_getElem hj] at this
  exact this
theorem numF_take (s : Bs) (k : Nat) (h : k < s.length) : numF 0 (s.take (k + 1)) = stp (numF 0 (s.take k)) (s.getD k 0) := by
  rw [List.take_add_one, List.getElem?_eq_getElem h]
  simp only [Option.toList]
  rw [numF_snoc, List.getD_eq_getElem?_getD, List.getElem?_eq_getElem h]
  rfl
theorem numF_small (s : Bs) (k : Nat) (hk : k ≤ s.length) (h16 : k < 16) (hd : ∀ j, j < k → dgt (s.getD j 0)) : numF 0 (s.take k) < 1000000000000000 := by
  have h := numF_lt (s.take k) 0 fun c hc => by
    obtain ⟨j, hj, rfl⟩ := List.getElem_of_mem hc
    rw [List.length_take] at hj
    have := hd j (by omega)
    rw [List.getD_eq_getElem?_getD, List.getElem?_eq_getElem (by omega)] at this
    simpa using this
  rw [Nat.zero_add, Nat.one_mul, List.length_take, Nat.min_eq_left hk] at h
  have : 10 ^ k ≤ 10 ^ 15 := Nat.pow_le_pow_right (by decide) (by omega)
  omega
set_option maxRecDepth 100000 in
set_option maxHeartbeats 4000000 in
theorem pu_any (s : ByteArray) (w : World) (hs : s.size ≤ 16) (hs0 : 0 < s.size) : Calls Tryz.prog 74 #[.string s, .int .i64 10, .int .i64 62] w fun r w' => Below w.heap.size w w' ∧ PuR (tl s) r := by
  have hcv := Lib.run_convert_string_bytes (P := Tryz.prog) w 9 26 5 s Tryz.underlying9 Tryz.underlying26 Tryz.underlying5
  have hne : s.toList.isEmpty = false := by
    rw [Lib.toList_data]
    have := Lib.size_eq s
    cases h : s.data.toList with
    | nil => rw [h, List.length_nil] at this; omega
    | cons a b => rfl
  have hb := below_bytes w s
  have hcell : ∀ j, j < s.size → (Lib.bytesWorld w 5 s).cell? ⟨w.heap.size, j, none⟩ = some (.int .u8 ((tl s).getD j 0).toNat) := fun j hj => Lib.bytesWorld_cell w 5 s j hj
  have hln := tl_len s
  generalize Lib.bytesWorld w 5 s = W at hcv hb hcell
  have HC := hide' hcell
  have HB := hide' hb
  clear hcell hb
  go_enter Tryz.func74, Tryz.ntmps74
  go_wp2
  go_loopw [12, 13, 101] (fun u n i wr => ∃ k : Nat, k ≤ s.size ∧ u = .bool false ∧ i = .int .i64 k ∧ n = .int .u64 (numF 0 ((tl s).take k) : Nat) ∧ Hid (∀ j, j < k → dgt ((tl s).getD j 0)) ∧ wr = W) (fun _ _ i _ => s.size - (intOf i).toNat)
  case atStart => exact ⟨0, by omega, rfl, rfl, by rw [List.take_zero, numF_nil]; rfl, hide' fun j hj => absurd hj (Nat.not_lt_zero _), rfl⟩
  case round =>
    obtain ⟨k, hk, rfl, rfl, rfl, hD, rfl⟩ := hrel
    by_cases hks : k < s.size
    · have hc := HC.out k hks
      have hsm := numF_small (tl s) k (by omega) (by omega) hD.out
      have hnx := numF_take (tl s) k (by omega)
      rw [stp_eq] at hnx
      have HP := hide' (fun h => valP_bad (tl s) k (by omega) h)
      have HNX := hide' hnx
      have HD := hide' hD.out
      have ql := fun w => lower_any ((tl s).getD k 0) w
      have hl : ((k : Int) < (s.size : Int)) := by omega
      have hd0 : dgt ((tl s).getD k 0) ↔ 48 ≤ ((tl s).getD k 0).toNat ∧ ((tl s).getD k 0).toNat ≤ 57 := Iff.rfl
      have HDG := hide' hd0
      generalize low ((tl s).getD k 0) = z at ql
      clear hnx hD hd0
      obtain ⟨M, hM⟩ : ∃ M, M = numF 0 ((tl s).take k) := ⟨_, rfl⟩
      rw [← hM] at hsm ⊢
      have HM := hide' hM
      clear hM
      obtain ⟨cN, hcN⟩ : ∃ c, c = ((tl s).getD k 0).toNat := ⟨_, rfl⟩
      rw [← hcN] at hc ql
      have HCN := hide' hcN
      clear hcN hcv
      by_cases hdg : 48 ≤ cN ∧ cN ≤ 57
      · obtain ⟨g1, g2⟩ := hdg
        have f1 : ¬ (cN : Int) = 95 := by omega
        have f1' : ((cN : Int) == 95) = false := by simp; omega
        have f2 : (48 : Int) ≤ (cN : Int) := by omega
        have f3 : (cN : Int) ≤ 57 := by omega
        obtain ⟨d, hd⟩ : ∃ d : Nat, d = cN - 48 := ⟨_, rfl⟩
        have w1 : IntKind.u8.wrap ((cN : Int) - 48) = (d : Int) := by rw [IntKind.wrap_u8]; omega
        have f4 : ¬ (10 : Int) ≤ (d : Int) := by omega
        have f5 : ¬ (1844674407370955162 : Int) ≤ (M : Int) := by omega
        have w2 : IntKind.u64.wrap ((M : Int) * 10) = (M : Int) * 10 := by rw [IntKind.wrap_u64]; omega
        have w3 : IntKind.u64.wrap (d : Int) = (d : Int) := by rw [IntKind.wrap_u64]; omega
        have w4 : IntKind.u64.wrap ((M : Int) * 10 + (d : Int)) = (M : Int) * 10 + (d : Int) := by rw [IntKind.wrap_u64]; omega
        have f6 : ¬ (M : Int) * 10 + (d : Int) < (M : Int) * 10 := by omega
        have f7 : ¬ (4611686018427387903 : Int) < (M : Int) * 10 + (d : Int) := by omega
        have HDD := hide' hd
        clear hd
        go_wp2
        refine ⟨⟨k + 1, by omega, rfl, by go_num, ?_, hide' fun j hj => ?_, trivial⟩, by simp [intOf]; omega⟩
        · have e : numF 0 (List.take (k + 1) (tl s)) = M * 10 + d := by rw [HNX.out, ← HM.out, HDD.out, HCN.out]
          rw [e]
          simp
        · by_cases hjk : j = k
          · subst hjk
            exact HDG.out.2 (by rw [← HCN.out]; exact ⟨g1, g2⟩)
          · exact HD.out j (by omega)
      · have hsyn : valP (tl s) = none := HP.out fun h => hdg (by rw [HCN.out]; exact h)
        have HS := hide' hsyn
        clear hsyn HP HNX HD HDG HCN HM HC hsm hln hne
        by_cases a1 : cN = 95
        · have f1 : (cN : Int) = 95 := by omega
          rw [f1] at ql hc
          clear hdg a1 f1
          by_cases z1 : 97 ≤ z
          · by_cases z2 : z ≤ 122
            · have w5 : IntKind.u8.wrap (z - 97) = z - 97 := by rw [IntKind.wrap_u8]; omega
              have w6 : IntKind.u8.wrap (z - 97 + 10) = z - 97 + 10 := by rw [IntKind.wrap_u8]; omega
              have f9 : (10 : Int) ≤ z - 97 + 10 := by omega
              go_wp2_with (go_at_call 88; refine (ql _).mono ?_; rintro e w' ⟨rfl, rfl⟩)
              go_ret2
              exact ⟨HB.out, .inr ⟨HS.out, rfl⟩⟩
            · go_wp2_with (go_at_call 88; refine (ql _).mono ?_; rintro e w' ⟨rfl, rfl⟩)
              go_ret2
              exact ⟨HB.out, .inr ⟨HS.out, rfl⟩⟩
          · go_wp2_with (go_at_call 88; refine (ql _).mono ?_; rintro e w' ⟨rfl, rfl⟩)
            go_ret2
            exact ⟨HB.out, .inr ⟨HS.out, rfl⟩⟩
        · have f1 : ¬ (cN : Int) = 95 := by omega
          have f1' : ((cN : Int) == 95) = false := by simp; omega
          by_cases a2 : 48 ≤ cN
          · have f2 : (48 : Int) ≤ (cN : Int) := by omega
            have f3 : ¬ (cN : Int) ≤ 57 := by omega
            clear hdg a1 a2
            by_cases z1 : 97 ≤ z
            · by_cases z2 : z ≤ 122
              · have w5 : IntKind.u8.wrap (z - 97) = z - 97 := by rw [IntKind.wrap_u8]; omega
                have w6 : IntKind.u8.wrap (z - 97 + 10) = z - 97 + 10 := by rw [IntKind.wrap_u8]; omega
                have f9 : (10 : Int) ≤ z - 97 + 10 := by omega
                go_wp2_with (go_at_call 88; refine (ql _).mono ?_; rintro e w' ⟨rfl, rfl⟩)
                go_ret2
                exact ⟨HB.out, .inr ⟨HS.out, rfl⟩⟩
              · go_wp2_with (go_at_call 88; refine (ql _).mono ?_; rintro e w' ⟨rfl, rfl⟩)
                go_ret2
                exact ⟨HB.out, .inr ⟨HS.out, rfl⟩⟩
            · go_wp2_with (go_at_call 88; refine (ql _).mono ?_; rintro e w' ⟨rfl, rfl⟩)
              go_ret2
              exact ⟨HB.out, .inr ⟨HS.out, rfl⟩⟩
          · have f2 : ¬ (48 : Int) ≤ (cN : Int) := by omega
            clear hdg a1 a2
            by_cases z1 : 97 ≤ z
            · by_cases z2 : z ≤ 122
              · have w5 : IntKind.u8.wrap (z - 97) = z - 97 := by rw [IntKind.wrap_u8]; omega
                have w6 : IntKind.u8.wrap (z - 97 + 10) = z - 97 + 10 := by rw [IntKind.wrap_u8]; omega
                have f9 : (10 : Int) ≤ z - 97 + 10 := by omega
                go_wp2_with (go_at_call 88; refine (ql _).mono ?_; rintro e w' ⟨rfl, rfl⟩)
                go_ret2
                exact ⟨HB.out, .inr ⟨HS.out, rfl⟩⟩
              · go_wp2_with (go_at_call 88; refine (ql _).mono ?_; rintro e w' ⟨rfl, rfl⟩)
                go_ret2
                exact ⟨HB.out, .inr ⟨HS.out, rfl⟩⟩
            · go_wp2_with (go_at_call 88; refine (ql _).mono ?_; rintro e w' ⟨rfl, rfl⟩)
              go_ret2
              exact ⟨HB.out, .inr ⟨HS.out, rfl⟩⟩
    · have hke : k = s.size := by omega
      subst hke
      have hv := valP_good (tl s) (by omega) (fun j hj => hD.out j (by omega))
      have e : (tl s).take s.size = tl s := List.take_of_length_le (by omega)
      rw [e]
      have HV := hide' hv
      clear hv hD HC hcv hk hks
      go_wp2
      go_ret2
      exact ⟨HB.out, .inl ⟨_, HV.out, rfl⟩⟩
end Go.Proofs.YtcijjigafcpcpaaGreatDoor
