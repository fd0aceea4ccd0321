/- The contracts of anvilref1.Index, anvilref1.Decimal, anvilref5.padded, anvilref5.head, anvilref5.fair. -/
import Derived.Test.YtcijjigafcpcpaaGreatDoorSz
import Derived.Lib.ItoaNum
namespace Go.Proofs.YtcijjigafcpcpaaGreatDoor
open Go.RowKit Go.Maps

set_option maxHeartbeats 400000 in
theorem rindex_no (c : UInt8) (cn : Nat) (hcn : c.toNat = cn) (s : ByteArray) (w : World) (hs : s.size ≤ 1000000) (h : c ∉ tl s) :
    Calls Tryz.prog 31 #[.string s, .int .u8 cn] w fun e w' => e = .returned (.int .i64 (-1)) ∧ w' = w := by
  have HN : Hid (∀ k (h : k < s.size), ¬ s[k] = c) := fun k hk e => h (by rw [← e, ← getD_at s k hk, List.getD_eq_getElem?_getD, List.getElem?_eq_getElem (by rw [tl_len]; exact hk)]; exact List.getElem_mem _)
  clear h
  go_enter Tryz.func31, Tryz.ntmps31
  go_wp2
  go_loop [5] (fun i => ∃ k : Nat, k ≤ s.size ∧ i = .int .i64 k) (fun i => s.size - (intOf i).toNat)
  case atStart => exact ⟨0, Nat.zero_le _, rfl⟩
  case round =>
    obtain ⟨k, hk, rfl⟩ := hrel
    by_cases hlt : k < s.size
    · have k1 := beq_no s[k] c cn hcn (HN.out k hlt)
      go_wp2
      exact ⟨⟨k + 1, by omega, by go_num⟩, by simp [intOf]; omega⟩
    · go_wp2
      go_ret
      exact ⟨rfl, rfl⟩

set_option maxHeartbeats 400000 in
theorem rindex_yes (c : UInt8) (cn : Nat) (hcn : c.toNat = cn) (s : ByteArray) (w : World) (hs : s.size ≤ 1000000) (h : c ∈ tl s) :
    Calls Tryz.prog 31 #[.string s, .int .u8 cn] w fun e w' => (∃ k : Nat, e = .returned (.int .i64 k)) ∧ w' = w := by
  have HN : Hid (∃ k, ∃ h : k < s.size, s[k] = c) := by
    obtain ⟨k, hk, e⟩ := List.mem_iff_getElem.1 h
    exact ⟨k, by rw [tl_len] at hk; exact hk, e⟩
  clear h
  go_enter Tryz.func31, Tryz.ntmps31
  go_wp2
  go_loop [5] (fun i => ∃ k : Nat, k ≤ s.size ∧ i = .int .i64 k ∧ Hid (∃ j, ∃ h : j < s.size, s[j] = c ∧ k ≤ j)) (fun i => s.size - (intOf i).toNat)
  case atStart =>
    obtain ⟨k, h, e⟩ := HN.out
    exact ⟨0, Nat.zero_le _, rfl, k, h, e, Nat.zero_le _⟩
  case round =>
    obtain ⟨k, hk, rfl, HJ⟩ := hrel
    by_cases hlt : k < s.size
    · by_cases h1 : s[k] = c
      · have k1 := beq_yes s[k] c cn hcn h1
        clear h1 HJ HN
        go_wp2
        go_ret
        exact ⟨⟨k, rfl⟩, rfl⟩
      · have k1 := beq_no s[k] c cn hcn h1
        have HJ' : Hid (∃ j, ∃ h : j < s.size, s[j] = c ∧ k + 1 ≤ j) := by
          obtain ⟨j, hj, e, h2⟩ := HJ.out
          refine ⟨j, hj, e, ?_⟩
          rcases Nat.lt_or_ge k j with h3 | h3
          · exact h3
          · obtain rfl : j = k := by omega
            exact absurd e h1
        clear h1 HJ HN
        go_wp2
        exact ⟨⟨k + 1, by omega, by go_num, HJ'⟩, by simp [intOf]; omega⟩
    · obtain ⟨j, hj, _, h2⟩ := HJ.out
      omega
theorem dec_sm (u : Nat) (h : u < 10) : Lib.decDigits u = [UInt8.ofNat (48 + u)] := Lib.decDigits_one h
theorem dec_step (u : Nat) (h : ¬ u < 10) : Lib.decDigits u = Lib.decDigits (u / 10) ++ [UInt8.ofNat (48 + u % 10)] := by
  conv => lhs; rw [Lib.decDigits, dif_neg h]
theorem piece : ∀ k : Fin 10, (⟨#[48, 49, 50, 51, 52, 53, 54, 55, 56, 57]⟩ : ByteArray).extract k.val (k.val + 1) = ⟨#[UInt8.ofNat (48 + k.val)]⟩ := by decide +kernel
theorem piece_at (k : Nat) (h : k < 10) : (⟨#[48, 49, 50, 51, 52, 53, 54, 55, 56, 57]⟩ : ByteArray).extract k (k + 1) = ⟨#[UInt8.ofNat (48 + k)]⟩ := piece ⟨k, h⟩
theorem dec_size (u : Nat) (h : u ≤ 9223372036854775808) : (⟨(Lib.decDigits u).toArray⟩ : ByteArray).size ≤ 20 := by
  show (Lib.decDigits u).toArray.size ≤ 20
  rw [List.size_toArray]
  exact digits_len 19 u (by show u < 100000000000000000000; omega)
set_option maxHeartbeats 400000 in
theorem rdecimal_nat (k : Nat) : ∀ u : Nat, u ≤ k → u ≤ 9223372036854775807 → ∀ w : World,
    Calls Tryz.prog 27 #[.int .i64 u] w fun e w' => e = .returned (.string ⟨(Lib.decDigits u).toArray⟩) ∧ w' = w := by
  induction k using Nat.strongRecOn with
  | ind k ih =>
    intro u hu hb w
    by_cases h : u < 10
    · have j1 : ¬ (u : Int) < 0 := by omega
      have j2 : ¬ (9 : Int) < u := by omega
      go_enter Tryz.func27, Tryz.ntmps27
      go_wp2
      go_ret
      exact ⟨ret_str (by rw [dec_sm u h, Nat.mod_eq_of_lt h, piece_at u h]), rfl⟩
    · have j1 : ¬ (u : Int) < 0 := by omega
      have j2 : (9 : Int) < u := by omega
      have hd := dec_step u h
      have hz := dec_size (u / 10) (by omega)
      have kr : ∀ w, Calls Tryz.prog 27 #[.int .i64 ((u : Int) / 10)] w fun e w' => e = .returned (.string ⟨(Lib.decDigits (u / 10)).toArray⟩) ∧ w' = w := fun w => by
        have := ih (u / 10) (by omega) (u / 10) (Nat.le_refl _) (by omega) w
        rwa [show ((u / 10 : Nat) : Int) = (u : Int) / 10 by omega] at this
      have hfin : (⟨(Lib.decDigits (u / 10)).toArray⟩ : ByteArray) ++ (⟨#[UInt8.ofNat (48 + u % 10)]⟩ : ByteArray) = ⟨(Lib.decDigits u).toArray⟩ := by
        rw [hd, ByteArray.mk_append_mk]
      have HF := hide' hfin
      have HP := hide' (piece_at (u % 10) (Nat.mod_lt _ (by decide)))
      generalize Lib.decDigits u = du at HF ⊢
      generalize (⟨(Lib.decDigits (u / 10)).toArray⟩ : ByteArray) = d at hz kr HF
      clear ih hd hfin
      go_enter Tryz.func27, Tryz.ntmps27
      go_wp2_with (go_at_call 27; refine (kr _).mono ?_; rintro e w' ⟨rfl, rfl⟩)
      go_ret
      exact ⟨ret_str (by rw [← HF.out, ← HP.out]), rfl⟩

theorem dec_nat (u : Nat) : dec (u : Nat) = Lib.decDigits u := by
  unfold dec Lib.itoa
  rw [if_neg (by omega)]
  simp
theorem rdec_any (n : Int) (h0 : 0 ≤ n) (h1 : n ≤ 9223372036854775807) (w : World) : Calls Tryz.prog 27 #[.int .i64 n] w fun e w' => e = .returned (.string (mk (dec n))) ∧ w' = w := by
  obtain ⟨u, rfl⟩ : ∃ u : Nat, n = u := ⟨n.toNat, by omega⟩
  rw [dec_nat]
  exact rdecimal_nat u u (Nat.le_refl _) (by omega) w
theorem pad_step {n : Nat} {b : Bs} (h : b.length < n) : pad n (b ++ [32]) = pad n b := by
  unfold pad
  rw [List.append_assoc, List.length_append, List.length_singleton]
  congr 1
  have e : n - b.length = (n - (b.length + 1)) + 1 := by omega
  rw [e, List.replicate_succ]
  rfl
theorem pad_done {n : Nat} {b : Bs} (h : ¬ b.length < n) : pad n b = b := by
  unfold pad
  rw [show n - b.length = 0 by omega]
  simp
theorem cat_one (b : Bs) (c : UInt8) : mk b ++ (⟨#[c]⟩ : ByteArray) = mk (b ++ [c]) := ByteArray.ext (by rw [ByteArray.data_append]; simp)
theorem cat_two (b : Bs) (c d : UInt8) : mk b ++ (⟨#[c, d]⟩ : ByteArray) = mk (b ++ [c, d]) := ByteArray.ext (by rw [ByteArray.data_append]; simp)
theorem cat_mk' (a b : Bs) : mk a ++ mk b = mk (a ++ b) := ByteArray.ext (by rw [ByteArray.data_append]; simp)
set_option maxRecDepth 100000 in
set_option maxHeartbeats 1000000 in
theorem pad_any (b : Bs) (n : Nat) (hb : b.length ≤ 1000000) (hn : n ≤ 100) (w : World) : Calls Tryz.prog 30 #[.string (mk b), .int .i64 n] w fun e w' => e = .returned (.string (mk (pad n b))) ∧ w' = w := by
  go_enter Tryz.func30, Tryz.ntmps30
  go_wp2
  go_loopw [0] (fun s wr => ∃ c : Bs, s = .string (mk c) ∧ c.length ≤ 1000000 ∧ pad n c = pad n b ∧ wr = w) (fun s _ => n - (match s with | .string t => t.size | _ => 0))
  case atStart => exact ⟨b, rfl, hb, rfl, rfl⟩
  case round =>
    obtain ⟨c, rfl, hc, hp, rfl⟩ := hrel
    have hz := mk_size c
    have HP := hide' hp
    clear hp
    by_cases h : c.length < n
    · have k1 : (c.length : Int) < n := by omega
      have hcat := cat_one c 32
      go_wp2
      exact ⟨⟨c ++ [32], rfl, by rw [List.length_append]; simp; omega, (pad_step h).trans HP.out, trivial⟩, by simp [mk_size]; omega⟩
    · have k1 : ¬ (c.length : Int) < n := by omega
      go_wp2
      go_ret
      exact ⟨ret_str (by rw [← HP.out, pad_done h]), rfl⟩
end Go.Proofs.YtcijjigafcpcpaaGreatDoor
