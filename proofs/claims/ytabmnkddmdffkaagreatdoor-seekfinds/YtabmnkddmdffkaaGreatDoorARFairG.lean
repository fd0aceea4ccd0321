import Derived.Test.YtabmnkddmdffkaaGreatDoorARSz
import Derived.Lib.ItoaNum
import Derived.Test.YtabmnkddmdffkaaGreatDoorARHeadG
namespace Go.Proofs.YtabmnkddmdffkaaGreatDoor.Arc
open Go.RowKit Go.Maps
set_option maxHeartbeats 400000 in
theorem rindex_no (c : UInt8) (cn : Nat) (hcn : c.toNat = cn) (s : ByteArray) (w : World) (hs : s.size ≤ 1000000) (h : c ∉ tl s) :
  Calls Tryz.prog 39 #[.string s, .int .u8 cn] w fun e w' => e = .returned (.int .i64 (-1)) ∧ w' = w := by
 have HN : Hid (∀ k (h : k < s.size), ¬ s[k] = c) := fun k hk e => h (by rw [← e, ← getD_at s k hk, List.getD_eq_getElem?_getD, List.getElem?_eq_getElem (by rw [tl_len]; exact hk)]; exact List.getElem_mem _)
 clear h
 go_enter Tryz.func39, Tryz.ntmps39
 go_wp2
 go_loop [5] (fun i => ∃ k : Nat, k ≤ s.size ∧ i = .int .i64 k) (fun i => s.size - (intOf i).toNat)
 case atStart => exact ⟨0, Nat.zero_le _, rfl⟩
 case round =>
  obtain ⟨k, hk, rfl⟩ := hrel
  by_cases hlt : k < s.size
  ·have k1 := beq_no s[k] c cn hcn (HN.out k hlt)
   go_wp2
   exact ⟨⟨k + 1, by omega, by go_num⟩, by simp [intOf]; omega⟩
  ·go_wp2
   go_ret
   exact ⟨rfl, rfl⟩
set_option maxHeartbeats 400000 in
theorem rindex_yes (c : UInt8) (cn : Nat) (hcn : c.toNat = cn) (s : ByteArray) (w : World) (hs : s.size ≤ 1000000) (h : c ∈ tl s) :
  Calls Tryz.prog 39 #[.string s, .int .u8 cn] w fun e w' => (∃ k : Nat, e = .returned (.int .i64 k)) ∧ w' = w := by
 have HN : Hid (∃ k, ∃ h : k < s.size, s[k] = c) := by
  obtain ⟨k, hk, e⟩ := List.mem_iff_getElem.1 h
  exact ⟨k, by rw [tl_len] at hk; exact hk, e⟩
 clear h
 go_enter Tryz.func39, Tryz.ntmps39
 go_wp2
 go_loop [5] (fun i => ∃ k : Nat, k ≤ s.size ∧ i = .int .i64 k ∧ Hid (∃ j, ∃ h : j < s.size, s[j] = c ∧ k ≤ j)) (fun i => s.size - (intOf i).toNat)
 case atStart =>
  obtain ⟨k, h, e⟩ := HN.out
  exact ⟨0, Nat.zero_le _, rfl, k, h, e, Nat.zero_le _⟩
 case round =>
  obtain ⟨k, hk, rfl, HJ⟩ := hrel
  by_cases hlt : k < s.size
  ·by_cases h1 : s[k] = c
   ·have k1 := beq_yes s[k] c cn hcn h1
    clear h1 HJ HN
    go_wp2
    go_ret
    exact ⟨⟨k, rfl⟩, rfl⟩
   ·have k1 := beq_no s[k] c cn hcn h1
    have HJ' : Hid (∃ j, ∃ h : j < s.size, s[j] = c ∧ k + 1 ≤ j) := by
     obtain ⟨j, hj, e, h2⟩ := HJ.out
     refine ⟨j, hj, e, ?_⟩
     rcases Nat.lt_or_ge k j with h3 | h3
     ·exact h3
     ·obtain rfl : j = k := by omega
      exact absurd e h1
    clear h1 HJ HN
    go_wp2
    exact ⟨⟨k + 1, by omega, by go_num, HJ'⟩, by simp [intOf]; omega⟩
  ·obtain ⟨j, hj, _, h2⟩ := HJ.out
   omega
theorem dec_sm (u : Nat) (h : u < 10) : Lib.decDigits u = [UInt8.ofNat (48 + u)] := Lib.decDigits_one h
theorem dec_step (u : Nat) (h : ¬ u < 10) : Lib.decDigits u = Lib.decDigits (u / 10) ++ [UInt8.ofNat (48 + u % 10)] := by
 conv => lhs; rw [Lib.decDigits, dif_neg h]
theorem piece : ∀ k : Fin 10, (⟨#[48, 49, 50, 51, 52, 53, 54, 55, 56, 57]⟩ : ByteArray).extract k.val (k.val + 1) = ⟨#[UInt8.ofNat (48 + k.val)]⟩ := by decide +kernel
theorem piece_at (k : Nat) (h : k < 10) : (⟨#[48, 49, 50, 51, 52, 53, 54, 55, 56, 57]⟩ : ByteArray).extract k (k + 1) = ⟨#[UInt8.ofNat (48 + k)]⟩ := piece ⟨k, h⟩
theorem dec_size (u : Nat) (h : u ≤ 9223372036854775808) : (⟨(Lib.decDigits u).toArray⟩ : ByteArray).size ≤ 20 := by
 show (Lib.decDigits u).toArray.size ≤ 20
 rw [List.size_toArray]
 exact digits_len 19 u (by show u < 100000000000000000000; omega)
set_option maxHeartbeats 400000 in
theorem rdecimal_nat (k : Nat) : ∀ u : Nat, u ≤ k → u ≤ 9223372036854775807 → ∀ w : World,
  Calls Tryz.prog 119 #[.int .i64 u] w fun e w' => e = .returned (.string ⟨(Lib.decDigits u).toArray⟩) ∧ w' = w := by
 induction k using Nat.strongRecOn with
 | ind k ih =>
  intro u hu hb w
  by_cases h : u < 10
  ·have j1 : ¬ (u : Int) < 0 := by omega
   have j2 : ¬ (9 : Int) < u := by omega
   go_enter Tryz.func119, Tryz.ntmps119
   go_wp2
   go_ret
   exact ⟨ret_str (by rw [dec_sm u h, Nat.mod_eq_of_lt h, piece_at u h]), rfl⟩
  ·have j1 : ¬ (u : Int) < 0 := by omega
   have j2 : (9 : Int) < u := by omega
   have hd := dec_step u h
   have hz := dec_size (u / 10) (by omega)
   have kr : ∀ w, Calls Tryz.prog 119 #[.int .i64 ((u : Int) / 10)] w fun e w' => e = .returned (.string ⟨(Lib.decDigits (u / 10)).toArray⟩) ∧ w' = w := fun w => by
    have := ih (u / 10) (by omega) (u / 10) (Nat.le_refl _) (by omega) w
    rwa [show ((u / 10 : Nat) : Int) = (u : Int) / 10 by omega] at this
   have hfin : (⟨(Lib.decDigits (u / 10)).toArray⟩ : ByteArray) ++ (⟨#[UInt8.ofNat (48 + u % 10)]⟩ : ByteArray) = ⟨(Lib.decDigits u).toArray⟩ := by
    rw [hd, ByteArray.mk_append_mk]
   have HF := hide' hfin
   have HP := hide' (piece_at (u % 10) (Nat.mod_lt _ (by decide)))
   generalize Lib.decDigits u = du at HF ⊢
   generalize (⟨(Lib.decDigits (u / 10)).toArray⟩ : ByteArray) = d at hz kr HF
   clear ih hd hfin
   go_enter Tryz.func119, Tryz.ntmps119
   go_wp2_with (go_at_call 119; refine (kr _).mono ?_; rintro e w' ⟨rfl, rfl⟩)
   go_ret
   exact ⟨ret_str (by rw [← HF.out, ← HP.out]), rfl⟩
theorem dec_nat (u : Nat) : dec (u : Nat) = Lib.decDigits u := by
 unfold dec Lib.itoa
 rw [if_neg (by omega)]
 simp
theorem rdec_any (n : Int) (h0 : 0 ≤ n) (h1 : n ≤ 9223372036854775807) (w : World) : Calls Tryz.prog 119 #[.int .i64 n] w fun e w' => e = .returned (.string (mk (dec n))) ∧ w' = w := by
 obtain ⟨u, rfl⟩ : ∃ u : Nat, n = u := ⟨n.toNat, by omega⟩
 rw [dec_nat]
 exact rdecimal_nat u u (Nat.le_refl _) (by omega) w
theorem pad_step {n : Nat} {b : Bs} (h : b.length < n) : pad n (b ++ [32]) = pad n b := by
 unfold pad
 rw [List.append_assoc, List.length_append, List.length_singleton]
 congr 1
 have e : n - b.length = (n - (b.length + 1)) + 1 := by omega
 rw [e, List.replicate_succ]
 rfl
theorem pad_done {n : Nat} {b : Bs} (h : ¬ b.length < n) : pad n b = b := by
 unfold pad
 rw [show n - b.length = 0 by omega]
 simp
theorem cat_one (b : Bs) (c : UInt8) : mk b ++ (⟨#[c]⟩ : ByteArray) = mk (b ++ [c]) := ByteArray.ext (by rw [ByteArray.data_append]; simp)
theorem cat_two (b : Bs) (c d : UInt8) : mk b ++ (⟨#[c, d]⟩ : ByteArray) = mk (b ++ [c, d]) := ByteArray.ext (by rw [ByteArray.data_append]; simp)
theorem cat_mk' (a b : Bs) : mk a ++ mk b = mk (a ++ b) := ByteArray.ext (by rw [ByteArray.data_append]; simp)
set_option maxRecDepth 100000 in
set_option maxHeartbeats 1000000 in
theorem pad_any (b : Bs) (n : Nat) (hb : b.length ≤ 1000000) (hn : n ≤ 100) (w : World) : Calls Tryz.prog 93 #[.string (mk b), .int .i64 n] w fun e w' => e = .returned (.string (mk (pad n b))) ∧ w' = w := by
 go_enter Tryz.func93, Tryz.ntmps93
 go_wp2
 go_loopw [0] (fun s wr => ∃ c : Bs, s = .string (mk c) ∧ c.length ≤ 1000000 ∧ pad n c = pad n b ∧ wr = w) (fun s _ => n - (match s with | .string t => t.size | _ => 0))
 case atStart => exact ⟨b, rfl, hb, rfl, rfl⟩
 case round =>
  obtain ⟨c, rfl, hc, hp, rfl⟩ := hrel
  have hz := mk_size c
  have HP := hide' hp
  clear hp
  by_cases h : c.length < n
  ·have k1 : (c.length : Int) < n := by omega
   have hcat := cat_one c 32
   go_wp2
   exact ⟨⟨c ++ [32], rfl, by rw [List.length_append]; simp; omega, (pad_step h).trans HP.out, trivial⟩, by simp [mk_size]; omega⟩
  ·have k1 : ¬ (c.length : Int) < n := by omega
   go_wp2
   go_ret
   exact ⟨ret_str (by rw [← HP.out, pad_done h]), rfl⟩
end Go.Proofs.YtabmnkddmdffkaaGreatDoor.Arc
namespace Go.Proofs.YtabmnkddmdffkaaGreatDoor.Arc
open Go.RowKit Go.Maps
theorem pad_size (n : Nat) (b : Bs) : (mk (pad n b)).size = b.length + (n - b.length) := by rw [mk_size]; unfold pad; simp
set_option maxRecDepth 100000 in
set_option maxHeartbeats 1000000 in
theorem rhead_any (a b c d : Bs) (n : Int) (ha : a.length ≤ 1000) (hb : b.length ≤ 1000) (hc : c.length ≤ 1000) (hd : d.length ≤ 1000) (h0 : 0 ≤ n) (h1 : n ≤ 1000000) (w : World) :
  Calls Tryz.prog 118 #[.string (mk a), .string (mk b), .string (mk c), .string (mk d), .int .i64 n] w fun e w' => e = .returned (.string (mk (headB a b c c d (dec n)))) ∧ w' = w := by
 have qd := fun w => rdec_any n h0 (by omega) w
 have hf : (dec n).length ≤ 7 := dec_len 6 n h0 (by show n < 10000000; omega)
 have hfin : mk (pad 16 a) ++ mk (pad 12 b) ++ mk (pad 6 c) ++ mk (pad 6 c) ++ mk (pad 8 d) ++ mk (pad 10 (dec n)) ++ (⟨#[96, 10]⟩ : ByteArray) = mk (headB a b c c d (dec n)) := by
  rw [cat_mk' (pad 16 a) (pad 12 b), cat_mk' (pad 16 a ++ pad 12 b) (pad 6 c), cat_mk' (pad 16 a ++ pad 12 b ++ pad 6 c) (pad 6 c), cat_mk' (pad 16 a ++ pad 12 b ++ pad 6 c ++ pad 6 c) (pad 8 d), cat_mk' (pad 16 a ++ pad 12 b ++ pad 6 c ++ pad 6 c ++ pad 8 d) (pad 10 (dec n)), cat_two]
  rfl
 have HF := hide' hfin
 clear hfin
 generalize dec n = f at *
 have p16a : ∀ w, Calls Tryz.prog 93 #[.string (mk a), .int .i64 16] w fun e w' => e = .returned (.string (mk (pad 16 a))) ∧ w' = w := fun w => pad_any a 16 (by omega) (by omega) w
 have z16a := pad_size 16 a
 have p12b : ∀ w, Calls Tryz.prog 93 #[.string (mk b), .int .i64 12] w fun e w' => e = .returned (.string (mk (pad 12 b))) ∧ w' = w := fun w => pad_any b 12 (by omega) (by omega) w
 have z12b := pad_size 12 b
 have p6c : ∀ w, Calls Tryz.prog 93 #[.string (mk c), .int .i64 6] w fun e w' => e = .returned (.string (mk (pad 6 c))) ∧ w' = w := fun w => pad_any c 6 (by omega) (by omega) w
 have z6c := pad_size 6 c
 have p8d : ∀ w, Calls Tryz.prog 93 #[.string (mk d), .int .i64 8] w fun e w' => e = .returned (.string (mk (pad 8 d))) ∧ w' = w := fun w => pad_any d 8 (by omega) (by omega) w
 have z8d := pad_size 8 d
 have p10f : ∀ w, Calls Tryz.prog 93 #[.string (mk f), .int .i64 10] w fun e w' => e = .returned (.string (mk (pad 10 f))) ∧ w' = w := fun w => pad_any f 10 (by omega) (by omega) w
 have z10f := pad_size 10 f
 generalize mk (pad 16 a) = P1 at *
 generalize mk (pad 12 b) = P2 at *
 generalize mk (pad 6 c) = P3 at *
 generalize mk (pad 8 d) = P5 at *
 generalize mk (pad 10 f) = P6 at *
 have z1 : P1.size ≤ 2000 := by omega
 have z2 : P2.size ≤ 2000 := by omega
 have z3 : P3.size ≤ 2000 := by omega
 have z5 : P5.size ≤ 2000 := by omega
 have z6 : P6.size ≤ 2000 := by omega
 clear z16a z12b z6c z8d z10f
 go_enter Tryz.func118, Tryz.ntmps118
 go_wp2_with fail
 refine (p16a _).mono ?_
 rintro e w' ⟨rfl, rfl⟩
 dsimp only
 go_wp2_with fail
 refine (p12b _).mono ?_
 rintro e w' ⟨rfl, rfl⟩
 dsimp only
 go_wp2_with fail
 refine (p6c _).mono ?_
 rintro e w' ⟨rfl, rfl⟩
 dsimp only
 go_wp2_with fail
 refine (p6c _).mono ?_
 rintro e w' ⟨rfl, rfl⟩
 dsimp only
 go_wp2_with fail
 refine (p8d _).mono ?_
 rintro e w' ⟨rfl, rfl⟩
 dsimp only
 go_wp2_with fail
 refine (qd _).mono ?_
 rintro e w' ⟨rfl, rfl⟩
 dsimp only
 go_wp2_with fail
 refine (p10f _).mono ?_
 rintro e w' ⟨rfl, rfl⟩
 dsimp only
 go_wp2
 go_ret
 exact ⟨ret_str HF.out, rfl⟩
end Go.Proofs.YtabmnkddmdffkaaGreatDoor.Arc
namespace Go.Proofs.YtabmnkddmdffkaaGreatDoor.Arc
open Go.RowKit Go.Maps
theorem has_iff (b : Bs) : has b = true ↔ 47 ∈ b ∨ 0 ∈ b ∨ 10 ∈ b := by
 unfold has
 rw [List.any_eq_true]
 constructor
 ·rintro ⟨x, hx, h⟩
  rcases (bad_iff x).1 h with rfl | rfl | rfl
  ·exact .inl hx
  ·exact .inr (.inl hx)
  ·exact .inr (.inr hx)
 ·rintro (h | h | h)
  ·exact ⟨_, h, rfl⟩
  ·exact ⟨_, h, rfl⟩
  ·exact ⟨_, h, rfl⟩
theorem ok_eq (m : Mv) : okM m = (nmb m.name && decide (0 ≤ m.date) && decide (m.date ≤ 999999999999)) := rfl
theorem ok_has {m : Mv} (h : has m.name = true) : okM m = false := by rw [ok_eq, nmb_has, h]; simp
set_option maxRecDepth 100000 in
set_option maxHeartbeats 4000000 in
theorem fair_any (b : Bs) (t : Int) (da : Option Addr) (dl dc : Nat) (x : Bs) (hs : b.length ≤ 1000000) (w : World) :
  Calls Tryz.prog 117 #[.agg #[.string (mk b), .int .i64 t, .slice da dl dc]] w fun e w' => e = .returned (.bool (okM ⟨b, t, .slice da dl dc, x⟩)) ∧ Below w.heap.size w w' := by
 have hB : Below w.heap.size w (w.alloc (.cells #[.string (mk b), .int .i64 t, .slice da dl dc] 86)) := (Below.refl _ _).alloc (Nat.le_refl _) _
 have hsz := mk_size b
 obtain ⟨r, hr⟩ : ∃ r, r = okM ⟨b, t, .slice da dl dc, x⟩ := ⟨_, rfl⟩
 rw [← hr]
 by_cases h0 : b = []
 ·have HO : Hid (r = false) := by rw [hr, ok_eq, nmb_has, h0]; rfl
  subst h0
  clear hr
  go_enter Tryz.func117, Tryz.ntmps117
  go_wp2
  go_ret
  exact ⟨ret_bool (by first | exact HO.out.symm | (rw [HO.out]; exact decide_eq_false (by omega))), hB⟩
 have e1 : (b == []) = false := beq_eq_false_iff_ne.2 h0
 have e0 : b.isEmpty = false := by cases b with | nil => exact absurd rfl h0 | cons _ _ => rfl
 by_cases h1 : b.length ≤ 255
 ·have k1 : (b.length : Int) ≤ 255 := by omega
  by_cases h47 : (47 : UInt8) ∈ b
  ·have HO : Hid (r = false) := by rw [hr]; exact ok_has ((has_iff b).2 (.inl h47))
   have q47 : ∀ w, Calls Tryz.prog 39 #[.string (mk b), .int .u8 47] w fun e w' => (∃ k : Nat, e = .returned (.int .i64 k)) ∧ w' = w := fun w => rindex_yes 47 47 rfl (mk b) w (by rw [mk_size]; omega) (by rw [tl_mk]; exact h47)
   clear hr h47 h0
   go_enter Tryz.func117, Tryz.ntmps117
   go_wp2_with fail
   refine (q47 _).mono ?_
   rintro e w' ⟨⟨k, rfl⟩, rfl⟩
   dsimp only
   have hkk : ¬ (k : Int) < 0 := by omega
   go_wp2
   go_ret
   exact ⟨ret_bool (by first | exact HO.out.symm | (rw [HO.out]; exact decide_eq_false (by omega))), hB⟩
  have q47 : ∀ w, Calls Tryz.prog 39 #[.string (mk b), .int .u8 47] w fun e w' => e = .returned (.int .i64 (-1)) ∧ w' = w := fun w => rindex_no 47 47 rfl (mk b) w (by rw [mk_size]; omega) (by rw [tl_mk]; exact h47)
  by_cases h0c : (0 : UInt8) ∈ b
  ·have HO : Hid (r = false) := by rw [hr]; exact ok_has ((has_iff b).2 (.inr (.inl h0c)))
   have q0 : ∀ w, Calls Tryz.prog 39 #[.string (mk b), .int .u8 0] w fun e w' => (∃ k : Nat, e = .returned (.int .i64 k)) ∧ w' = w := fun w => rindex_yes 0 0 rfl (mk b) w (by rw [mk_size]; omega) (by rw [tl_mk]; exact h0c)
   clear hr h47 h0 h0c
   go_enter Tryz.func117, Tryz.ntmps117
   go_wp2_with fail
   refine (q47 _).mono ?_
   rintro e w' ⟨rfl, rfl⟩
   dsimp only
   go_wp2_with fail
   refine (q0 _).mono ?_
   rintro e w' ⟨⟨k, rfl⟩, rfl⟩
   dsimp only
   have hkk : ¬ (k : Int) < 0 := by omega
   go_wp2
   go_ret
   exact ⟨ret_bool (by first | exact HO.out.symm | (rw [HO.out]; exact decide_eq_false (by omega))), hB⟩
  have q0 : ∀ w, Calls Tryz.prog 39 #[.string (mk b), .int .u8 0] w fun e w' => e = .returned (.int .i64 (-1)) ∧ w' = w := fun w => rindex_no 0 0 rfl (mk b) w (by rw [mk_size]; omega) (by rw [tl_mk]; exact h0c)
  by_cases h10 : (10 : UInt8) ∈ b
  ·have HO : Hid (r = false) := by rw [hr]; exact ok_has ((has_iff b).2 (.inr (.inr h10)))
   have q10 : ∀ w, Calls Tryz.prog 39 #[.string (mk b), .int .u8 10] w fun e w' => (∃ k : Nat, e = .returned (.int .i64 k)) ∧ w' = w := fun w => rindex_yes 10 10 rfl (mk b) w (by rw [mk_size]; omega) (by rw [tl_mk]; exact h10)
   clear hr h47 h0 h0c h10
   go_enter Tryz.func117, Tryz.ntmps117
   go_wp2_with fail
   refine (q47 _).mono ?_
   rintro e w' ⟨rfl, rfl⟩
   dsimp only
   go_wp2_with fail
   refine (q0 _).mono ?_
   rintro e w' ⟨rfl, rfl⟩
   dsimp only
   go_wp2_with fail
   refine (q10 _).mono ?_
   rintro e w' ⟨⟨k, rfl⟩, rfl⟩
   dsimp only
   have hkk : ¬ (k : Int) < 0 := by omega
   go_wp2
   go_ret
   exact ⟨ret_bool (by first | exact HO.out.symm | (rw [HO.out]; exact decide_eq_false (by omega))), hB⟩
  have q10 : ∀ w, Calls Tryz.prog 39 #[.string (mk b), .int .u8 10] w fun e w' => e = .returned (.int .i64 (-1)) ∧ w' = w := fun w => rindex_no 10 10 rfl (mk b) w (by rw [mk_size]; omega) (by rw [tl_mk]; exact h10)
  have hh : has b = false := by
   cases hb : has b with
   | false => rfl
   | true => rcases (has_iff b).1 hb with h | h | h
             ·exact absurd h h47
             ·exact absurd h h0c
             ·exact absurd h h10
  by_cases ht : 0 ≤ t
  ·by_cases ht2 : t < 1000000000000
   ·have HO : Hid (r = true) := by
     rw [hr, ok_eq, nmb_has]
     simp only [e0, hh]
     rw [decide_eq_true h1, decide_eq_true ht, decide_eq_true (show t ≤ 999999999999 by omega)]
     rfl
    clear hr h47 h0 h0c h10 hh
    go_enter Tryz.func117, Tryz.ntmps117
    go_wp2_with fail
    refine (q47 _).mono ?_
    rintro e w' ⟨rfl, rfl⟩
    dsimp only
    go_wp2_with fail
    refine (q0 _).mono ?_
    rintro e w' ⟨rfl, rfl⟩
    dsimp only
    go_wp2_with fail
    refine (q10 _).mono ?_
    rintro e w' ⟨rfl, rfl⟩
    dsimp only
    go_wp2
    go_ret
    exact ⟨ret_bool (by first | exact HO.out.symm | (rw [HO.out]; exact decide_eq_false (by omega))), hB⟩
   ·have HO : Hid (r = false) := by
     refine hide' ?_
     rw [hr, ok_eq]
     rw [decide_eq_false (show ¬ t ≤ 999999999999 by omega)]
     simp
    clear hr h47 h0 h0c h10 hh
    go_enter Tryz.func117, Tryz.ntmps117
    go_wp2_with fail
    refine (q47 _).mono ?_
    rintro e w' ⟨rfl, rfl⟩
    dsimp only
    go_wp2_with fail
    refine (q0 _).mono ?_
    rintro e w' ⟨rfl, rfl⟩
    dsimp only
    go_wp2_with fail
    refine (q10 _).mono ?_
    rintro e w' ⟨rfl, rfl⟩
    dsimp only
    go_wp2
    go_ret
    exact ⟨ret_bool (by first | exact HO.out.symm | (rw [HO.out]; exact decide_eq_false (by omega))), hB⟩
  ·have HO : Hid (r = false) := by
    refine hide' ?_
    rw [hr, ok_eq]
    rw [decide_eq_false ht]
    simp
   clear hr h47 h0 h0c h10 hh
   go_enter Tryz.func117, Tryz.ntmps117
   go_wp2_with fail
   refine (q47 _).mono ?_
   rintro e w' ⟨rfl, rfl⟩
   dsimp only
   go_wp2_with fail
   refine (q0 _).mono ?_
   rintro e w' ⟨rfl, rfl⟩
   dsimp only
   go_wp2_with fail
   refine (q10 _).mono ?_
   rintro e w' ⟨rfl, rfl⟩
   dsimp only
   go_wp2
   go_ret
   exact ⟨ret_bool (by first | exact HO.out.symm | (rw [HO.out]; exact decide_eq_false (by omega))), hB⟩
 ·have k1 : ¬ (b.length : Int) ≤ 255 := by omega
  have HO : Hid (r = false) := by
   refine hide' ?_
   rw [hr, ok_eq, nmb_has]
   rw [decide_eq_false h1]
   simp
  clear hr h0
  go_enter Tryz.func117, Tryz.ntmps117
  go_wp2
  go_ret
  exact ⟨ret_bool (by first | exact HO.out.symm | (rw [HO.out]; exact decide_eq_false (by omega))), hB⟩
end Go.Proofs.YtabmnkddmdffkaaGreatDoor.Arc
