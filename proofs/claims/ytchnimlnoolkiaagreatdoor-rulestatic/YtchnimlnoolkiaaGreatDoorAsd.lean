/- The contract of the reference's assigned. -/
import Derived.Test.YtchnimlnoolkiaaGreatDoorRat
import Derived.Deep.Cut
namespace Go.Proofs.YtchnimlnoolkiaaGreatDoor
open Go.RowKit Go.Shelf

theorem suf_last (l : ByteArray) (c : UInt8) (m : Nat) (h : l.size = m + 1) : Lib.hasSuffix (tl l) [c] = (l[m] == c) := by
  have hl : tl l = (tl l).take m ++ [l[m]] := by
    have e := List.take_succ_eq_append_getElem (l := tl l) (i := m) (by rw [tl_len]; omega)
    rw [List.take_of_length_le (by rw [tl_len]; omega)] at e
    exact e
  rw [hl]
  unfold Lib.hasSuffix
  rw [Bool.eq_iff_iff]
  constructor
  · intro h1
    have h2 : [c] <:+ (tl l).take m ++ [l[m]] := List.isSuffixOf_iff_suffix.1 h1
    obtain ⟨p, hp⟩ := h2
    have h3 := List.append_inj' hp rfl
    have := h3.2
    simp only [List.cons.injEq, and_true] at this
    exact beq_iff_eq.2 this.symm
  · intro h1
    have h2 : l[m] = c := eq_of_beq h1
    exact List.isSuffixOf_iff_suffix.2 ⟨(tl l).take m, by rw [h2]⟩
theorem suf_none (l : ByteArray) (c : UInt8) (h : l.size = 0) : Lib.hasSuffix (tl l) [c] = false := by
  have hl : tl l = [] := List.length_eq_zero_iff.1 (by rw [tl_len]; exact h)
  rw [hl]
  rfl
theorem pre_first (s : ByteArray) (k : Nat) (h : k < s.size) (c : UInt8) (p : Bs) (hp : Lib.hasPrefix ((tl s).drop k) (c :: p) = true) : s[k] = c := by
  rw [drop_at s k h] at hp
  obtain ⟨r, hr⟩ := List.isPrefixOf_iff_prefix.1 hp
  have := congrArg List.head? hr
  simpa using this.symm
set_option maxRecDepth 100000 in
set_option maxHeartbeats 4000000 in
theorem asd_any (s : ByteArray) (k : Nat) (hs : s.size ≤ 100000) (hk : k < s.size) (hset : setB s k = true) (w : World) : Calls Tryz.prog 27 #[.string s, .int .i64 k] w fun e w' => e = .returned (hv (asB s k)) ∧ Below w.heap.size w w' := by
  have hx := bx8_new w
  have hB : Below w.heap.size w (w.alloc (.cells #[.int .i64 0, .string ⟨#[]⟩, .string ⟨#[]⟩, .string ⟨#[]⟩, .string ⟨#[]⟩, .int .i64 0, .bool false, .bool false] 24)) := (Below.refl _ w).alloc (Nat.le_refl _) _
  generalize hW : w.alloc (.cells #[.int .i64 0, .string ⟨#[]⟩, .string ⟨#[]⟩, .string ⟨#[]⟩, .string ⟨#[]⟩, .int .i64 0, .bool false, .bool false] 24) = W at hx hB
  have HW := hide' hW
  clear hW
  have hLs : (s.extract 0 k).size ≤ 1000000 := by rw [ByteArray.size_extract]; omega
  have kT := fun w => Tx.rtrim_any (s.extract 0 k) w hLs
  have sT := sl_to s k (by omega)
  have hg := getD_at s k hk
  have hst : setB s k = ((sepP ((tl s).drop k)).2 || (s[k] == 61)) := by unfold setB; rw [hg]
  rw [hset] at hst
  by_cases h58 : s[k] = 58
  · have hsm : (sepP ((tl s).drop k)).2 = true := by
      cases hc : (sepP ((tl s).drop k)).2 with
      | true => rfl
      | false =>
        rw [hc, Bool.false_or] at hst
        have h9 : s[k] = 61 := eq_of_beq hst.symm
        exact absurd (h58.symm.trans h9) (by decide)
    have d1 : ((s[k].toNat : Int) == 58) = true := beq_yes _ 58 58 rfl h58
    have d2 : (s[k].toNat : Int) = 58 := by rw [h58]; rfl
    have q2 : ∀ w, Calls Tryz.prog 49 #[.string s, .int .i64 k, .string ⟨#[58, 58, 61]⟩] w fun e w' => e = .returned (.bool (Lib.hasPrefix ((tl s).drop k) [58, 58, 61])) ∧ w' = w := fun w => at_any s k ⟨#[58, 58, 61]⟩ (by omega) (by omega) (by decide) w
    have hw1 : IntKind.i64.wrap ((k : Int) + 1) = (k : Int) + 1 := i64_id _ ⟨by omega, by omega⟩
    have hw2 : IntKind.i64.wrap ((k : Int) + 2) = (k : Int) + 2 := i64_id _ ⟨by omega, by omega⟩
    have hw3 : IntKind.i64.wrap ((k : Int) + 2 + 1) = (k : Int) + 3 := (i64_id _ ⟨by omega, by omega⟩).trans (by omega)
    have hw4 : IntKind.i64.wrap ((k : Int) + 1 + 1) = (k : Int) + 2 := (i64_id _ ⟨by omega, by omega⟩).trans (by omega)
    have hw5 : IntKind.i64.wrap ((k : Int) + 3) = (k : Int) + 3 := i64_id _ ⟨by omega, by omega⟩
    cases h3 : Lib.hasPrefix ((tl s).drop k) [58, 58, 61] with
    | true =>
      rw [h3] at q2
      have hsp : sepP ((tl s).drop k) = (3, true) := by unfold sepP; rw [h3]; rfl
      have hle := (List.isPrefixOf_iff_prefix.1 h3).length_le
      rw [List.length_drop, tl_len] at hle
      have hle3 : k + 3 ≤ s.size := by simp at hle; omega
      have hA : asB s k = ⟨1, Tx.trimmed (s.extract 0 k), pb (s.extract (k + 3) s.size), nil, nil, 2, false, false⟩ := by unfold asB; rw [hsp]; rfl
      rw [hA]
      have kL := fun w => left_any (s.extract (k + 3) s.size) (by rw [ByteArray.size_extract]; omega) w
      rw [show mk ((tl (s.extract (k + 3) s.size)).dropWhile bl) = pb (s.extract (k + 3) s.size) from rfl] at kL
      have sF := sl_from s (k + 3) hle3
      rw [show ((k + 3 : Nat) : Int) = (k : Int) + 3 by omega] at sF
      generalize pb (s.extract (k + 3) s.size) = R at kL
      generalize Tx.trimmed (s.extract 0 k) = T at kT
      clear hst hset hg h58 hsm h3 hsp hle hA hLs
      go_enter Tryz.func27, Tryz.ntmps27
      go_upto_region 1 with fail
      rw [HW.out]
      go_upto_region 2 with (go_at_call 50; refine (kT _).mono ?_; rintro e w1 ⟨rfl, rfl⟩)
      have hy2 := bx8_at w1 1 T ⟨#[]⟩ ⟨#[]⟩ ⟨#[]⟩ 1 false false
      have hx3 := hx.alloc (.cells #[.int .i64 1, .string T, .string ⟨#[]⟩, .string ⟨#[]⟩, .string ⟨#[]⟩, .int .i64 1, .bool false, .bool false] 24)
      have hlt := hx.lt
      have hB3 := hB.alloc hB.size (.cells #[.int .i64 1, .string T, .string ⟨#[]⟩, .string ⟨#[]⟩, .string ⟨#[]⟩, .int .i64 1, .bool false, .bool false] 24)
      generalize hA : w1.heap.size = A at hy2 hlt
      generalize hW3 : w1.alloc (.cells #[.int .i64 1, .string T, .string ⟨#[]⟩, .string ⟨#[]⟩, .string ⟨#[]⟩, .int .i64 1, .bool false, .bool false] 24) = W3 at hx3 hy2 hB3
      have HW3 := hide' hW3
      have HA := hide' hA
      clear hW3 hx hB hA
      have cc0 := hx3.c0
      have cf0 := hx3.fz 0
      have cc1 := hx3.c1
      have cf1 := hx3.fz 1
      have cc2 := hx3.c2
      have cf2 := hx3.fz 2
      have cc3 := hx3.c3
      have cf3 := hx3.fz 3
      have cc4 := hx3.c4
      have cf4 := hx3.fz 4
      have cc5 := hx3.c5
      have cf5 := hx3.fz 5
      have cc6 := hx3.c6
      have cf6 := hx3.fz 6
      have cc7 := hx3.c7
      have cf7 := hx3.fz 7
      have yc0 := hy2.c0
      have yf0 := hy2.fz 0
      have yc1 := hy2.c1
      have yf1 := hy2.fz 1
      have yc2 := hy2.c2
      have yf2 := hy2.fz 2
      have yc3 := hy2.c3
      have yf3 := hy2.fz 3
      have yc4 := hy2.c4
      have yf4 := hy2.fz 4
      have yc5 := hy2.c5
      have yf5 := hy2.fz 5
      have yc6 := hy2.c6
      have yf6 := hy2.fz 6
      have yc7 := hy2.c7
      have yf7 := hy2.fz 7
      have HX := hide' hx3
      have HY := hide' hy2
      clear hx3 hy2
      go_wp2_with (first | (go_at_call 49; refine (q2 _).mono ?_; rintro e w2 ⟨rfl, rfl⟩) | (go_at_call 28; refine (kL _).mono ?_; rintro e w2 ⟨rfl, rfl⟩))
      have hne : w.heap.size ≠ A := by omega
      have hbA : w.heap.size ≤ A := by omega
      have hx9 := ((HX.out.other hne 5 (.int .i64 2)).other hne 2 (.string R)).set (k' := 1) (l' := T) (r' := R) (n' := ⟨#[]⟩) (c' := ⟨#[]⟩) (s' := 2) (d' := false) (h' := false)
      have e0 := hx9.c0
      have e1 := hx9.c1
      have e2 := hx9.c2
      have e3 := hx9.c3
      have e4 := hx9.c4
      have e5 := hx9.c5
      have e6 := hx9.c6
      have e7 := hx9.c7
      refine bodyPost_ret (by simp [results, Tryz.results27, go_sem, e0, e1, e2, e3, e4, e5, e6, e7]; rfl) rfl ?_
      exact ⟨rfl, put8_below ((hB3.setCell (p := ⟨A, 5, none⟩) hbA (.int .i64 2)).setCell (p := ⟨A, 2, none⟩) hbA (.string R)) (Nat.le_refl _) _ _ _ _ _ _ _ _⟩
    | false =>
      rw [h3] at q2
      have h2 : Lib.hasPrefix ((tl s).drop k) [58, 61] = true := by
        rw [sep_simple, h3, Bool.or_false] at hsm
        exact hsm
      have hsp : sepP ((tl s).drop k) = (2, true) := by unfold sepP; rw [h3, h2]; rfl
      have hle := (List.isPrefixOf_iff_prefix.1 h2).length_le
      rw [List.length_drop, tl_len] at hle
      have hle3 : k + 2 ≤ s.size := by simp at hle; omega
      have hA : asB s k = ⟨1, Tx.trimmed (s.extract 0 k), pb (s.extract (k + 2) s.size), nil, nil, 2, false, false⟩ := by unfold asB; rw [hsp]; rfl
      rw [hA]
      have kL := fun w => left_any (s.extract (k + 2) s.size) (by rw [ByteArray.size_extract]; omega) w
      rw [show mk ((tl (s.extract (k + 2) s.size)).dropWhile bl) = pb (s.extract (k + 2) s.size) from rfl] at kL
      have sF := sl_from s (k + 2) hle3
      rw [show ((k + 2 : Nat) : Int) = (k : Int) + 2 by omega] at sF
      generalize pb (s.extract (k + 2) s.size) = R at kL
      generalize Tx.trimmed (s.extract 0 k) = T at kT
      clear hst hset hg h58 hsm h3 hsp hle hA hLs h2
      go_enter Tryz.func27, Tryz.ntmps27
      go_upto_region 1 with fail
      rw [HW.out]
      go_upto_region 2 with (go_at_call 50; refine (kT _).mono ?_; rintro e w1 ⟨rfl, rfl⟩)
      have hy2 := bx8_at w1 1 T ⟨#[]⟩ ⟨#[]⟩ ⟨#[]⟩ 1 false false
      have hx3 := hx.alloc (.cells #[.int .i64 1, .string T, .string ⟨#[]⟩, .string ⟨#[]⟩, .string ⟨#[]⟩, .int .i64 1, .bool false, .bool false] 24)
      have hlt := hx.lt
      have hB3 := hB.alloc hB.size (.cells #[.int .i64 1, .string T, .string ⟨#[]⟩, .string ⟨#[]⟩, .string ⟨#[]⟩, .int .i64 1, .bool false, .bool false] 24)
      generalize hA : w1.heap.size = A at hy2 hlt
      generalize hW3 : w1.alloc (.cells #[.int .i64 1, .string T, .string ⟨#[]⟩, .string ⟨#[]⟩, .string ⟨#[]⟩, .int .i64 1, .bool false, .bool false] 24) = W3 at hx3 hy2 hB3
      have HW3 := hide' hW3
      have HA := hide' hA
      clear hW3 hx hB hA
      have cc0 := hx3.c0
      have cf0 := hx3.fz 0
      have cc1 := hx3.c1
      have cf1 := hx3.fz 1
      have cc2 := hx3.c2
      have cf2 := hx3.fz 2
      have cc3 := hx3.c3
      have cf3 := hx3.fz 3
      have cc4 := hx3.c4
      have cf4 := hx3.fz 4
      have cc5 := hx3.c5
      have cf5 := hx3.fz 5
      have cc6 := hx3.c6
      have cf6 := hx3.fz 6
      have cc7 := hx3.c7
      have cf7 := hx3.fz 7
      have yc0 := hy2.c0
      have yf0 := hy2.fz 0
      have yc1 := hy2.c1
      have yf1 := hy2.fz 1
      have yc2 := hy2.c2
      have yf2 := hy2.fz 2
      have yc3 := hy2.c3
      have yf3 := hy2.fz 3
      have yc4 := hy2.c4
      have yf4 := hy2.fz 4
      have yc5 := hy2.c5
      have yf5 := hy2.fz 5
      have yc6 := hy2.c6
      have yf6 := hy2.fz 6
      have yc7 := hy2.c7
      have yf7 := hy2.fz 7
      have HX := hide' hx3
      have HY := hide' hy2
      clear hx3 hy2
      go_wp2_with (first | (go_at_call 49; refine (q2 _).mono ?_; rintro e w2 ⟨rfl, rfl⟩) | (go_at_call 28; refine (kL _).mono ?_; rintro e w2 ⟨rfl, rfl⟩))
      have hne : w.heap.size ≠ A := by omega
      have hbA : w.heap.size ≤ A := by omega
      have hx9 := ((HX.out.other hne 5 (.int .i64 2)).other hne 2 (.string R)).set (k' := 1) (l' := T) (r' := R) (n' := ⟨#[]⟩) (c' := ⟨#[]⟩) (s' := 2) (d' := false) (h' := false)
      have e0 := hx9.c0
      have e1 := hx9.c1
      have e2 := hx9.c2
      have e3 := hx9.c3
      have e4 := hx9.c4
      have e5 := hx9.c5
      have e6 := hx9.c6
      have e7 := hx9.c7
      refine bodyPost_ret (by simp [results, Tryz.results27, go_sem, e0, e1, e2, e3, e4, e5, e6, e7]; rfl) rfl ?_
      exact ⟨rfl, put8_below ((hB3.setCell (p := ⟨A, 5, none⟩) hbA (.int .i64 2)).setCell (p := ⟨A, 2, none⟩) hbA (.string R)) (Nat.le_refl _) _ _ _ _ _ _ _ _⟩
  · have hno : ∀ p, Lib.hasPrefix ((tl s).drop k) (58 :: p) = false := fun p => by
      rw [Bool.eq_false_iff]
      intro h
      exact h58 (pre_first s k hk 58 p h)
    have hsm : (sepP ((tl s).drop k)).2 = false := by rw [sep_simple, hno, hno]; rfl
    have h61 : s[k] = 61 := by
      rw [hsm, Bool.false_or] at hst
      exact eq_of_beq hst.symm
    have hyes : Lib.hasPrefix ((tl s).drop k) [61] = true := by
      rw [drop_at s k hk, h61]
      unfold Lib.hasPrefix
      simp [List.isPrefixOf]
    have hsp : sepP ((tl s).drop k) = (1, false) := by unfold sepP; rw [hno, hno, hyes]; rfl
    have d1 : ((s[k].toNat : Int) == 58) = false := beq_no _ 58 58 rfl h58
    have d2 : ¬ (s[k].toNat : Int) = 58 := fun h => h58 (UInt8.toNat_inj.1 (by have e9 : (58 : UInt8).toNat = 58 := rfl; omega))
    have hA : asB s k = ⟨1, (modB (Tx.trimmed (s.extract 0 k))).1, pb (s.extract (k + 1) s.size), nil, nil, (modB (Tx.trimmed (s.extract 0 k))).2, false, false⟩ := by unfold asB; rw [hsp]; rfl
    rw [hA]
    have kL := fun w => left_any (s.extract (k + 1) s.size) (by rw [ByteArray.size_extract]; omega) w
    rw [show mk ((tl (s.extract (k + 1) s.size)).dropWhile bl) = pb (s.extract (k + 1) s.size) from rfl] at kL
    have sF := sl_from s (k + 1) (by omega)
    rw [show ((k + 1 : Nat) : Int) = (k : Int) + 1 by omega] at sF
    have hw1 : IntKind.i64.wrap ((k : Int) + 1) = (k : Int) + 1 := i64_id _ ⟨by omega, by omega⟩
    generalize pb (s.extract (k + 1) s.size) = R at kL
    have hTl : (Tx.trimmed (s.extract 0 k)).size ≤ 1000000 := by have := trimmed_size (s.extract 0 k); omega
    generalize Tx.trimmed (s.extract 0 k) = T at kT hTl
    clear hst hset hg h58 hsm hno h61 hyes hsp hA hLs
    by_cases h0 : T.size = 0
    · have hM : modB T = (T, 1) := by unfold modB; rw [suf_none T _ h0, suf_none T _ h0, suf_none T _ h0]; rfl
      rw [hM]
      clear hM hTl
      go_enter Tryz.func27, Tryz.ntmps27
      go_upto_region 1 with fail
      rw [HW.out]
      go_upto_region 2 with (go_at_call 50; refine (kT _).mono ?_; rintro e w1 ⟨rfl, rfl⟩)
      have hy2 := bx8_at w1 1 T ⟨#[]⟩ ⟨#[]⟩ ⟨#[]⟩ 1 false false
      have hx3 := hx.alloc (.cells #[.int .i64 1, .string T, .string ⟨#[]⟩, .string ⟨#[]⟩, .string ⟨#[]⟩, .int .i64 1, .bool false, .bool false] 24)
      have hlt := hx.lt
      have hB3 := hB.alloc hB.size (.cells #[.int .i64 1, .string T, .string ⟨#[]⟩, .string ⟨#[]⟩, .string ⟨#[]⟩, .int .i64 1, .bool false, .bool false] 24)
      generalize hA : w1.heap.size = A at hy2 hlt
      generalize hW3 : w1.alloc (.cells #[.int .i64 1, .string T, .string ⟨#[]⟩, .string ⟨#[]⟩, .string ⟨#[]⟩, .int .i64 1, .bool false, .bool false] 24) = W3 at hx3 hy2 hB3
      have HW3 := hide' hW3
      have HA := hide' hA
      clear hW3 hx hB hA
      have cc0 := hx3.c0
      have cf0 := hx3.fz 0
      have cc1 := hx3.c1
      have cf1 := hx3.fz 1
      have cc2 := hx3.c2
      have cf2 := hx3.fz 2
      have cc3 := hx3.c3
      have cf3 := hx3.fz 3
      have cc4 := hx3.c4
      have cf4 := hx3.fz 4
      have cc5 := hx3.c5
      have cf5 := hx3.fz 5
      have cc6 := hx3.c6
      have cf6 := hx3.fz 6
      have cc7 := hx3.c7
      have cf7 := hx3.fz 7
      have yc0 := hy2.c0
      have yf0 := hy2.fz 0
      have yc1 := hy2.c1
      have yf1 := hy2.fz 1
      have yc2 := hy2.c2
      have yf2 := hy2.fz 2
      have yc3 := hy2.c3
      have yf3 := hy2.fz 3
      have yc4 := hy2.c4
      have yf4 := hy2.fz 4
      have yc5 := hy2.c5
      have yf5 := hy2.fz 5
      have yc6 := hy2.c6
      have yf6 := hy2.fz 6
      have yc7 := hy2.c7
      have yf7 := hy2.fz 7
      have HX := hide' hx3
      have HY := hide' hy2
      clear hx3 hy2
      go_wp2_with (first | (go_at_call 28; refine (kL _).mono ?_; rintro e w2 ⟨rfl, rfl⟩))
      have hne : w.heap.size ≠ A := by omega
      have hbA : w.heap.size ≤ A := by omega
      have hx9 := (HX.out.other hne 2 (.string R)).set (k' := 1) (l' := T) (r' := R) (n' := ⟨#[]⟩) (c' := ⟨#[]⟩) (s' := 1) (d' := false) (h' := false)
      have e0 := hx9.c0
      have e1 := hx9.c1
      have e2 := hx9.c2
      have e3 := hx9.c3
      have e4 := hx9.c4
      have e5 := hx9.c5
      have e6 := hx9.c6
      have e7 := hx9.c7
      refine bodyPost_ret (by simp [results, Tryz.results27, go_sem, e0, e1, e2, e3, e4, e5, e6, e7]; rfl) rfl ?_
      exact ⟨rfl, put8_below (hB3.setCell (p := ⟨A, 2, none⟩) hbA (.string R)) (Nat.le_refl _) _ _ _ _ _ _ _ _⟩
    · obtain ⟨m, hm⟩ : ∃ m, T.size = m + 1 := ⟨T.size - 1, by omega⟩
      have hmT : m < T.size := by omega
      have hsf := fun c => suf_last T c m hm
      have k2 := fun w => Tx.rtrim_any (T.extract 0 m) w (by rw [ByteArray.size_extract]; omega)
      have hM : modB T = if (T[m] == 43) then (Tx.trimmed (T.extract 0 m), 4) else if (T[m] == 63) then (Tx.trimmed (T.extract 0 m), 3) else if (T[m] == 33) then (Tx.trimmed (T.extract 0 m), 5) else (T, 1) := by
        unfold modB
        rw [hsf, hsf, hsf, show T.size - 1 = m by omega]
      rw [hM]
      have sM := sl_to T m (by omega)
      have hmi : (T.size : Int) = (m : Int) + 1 := by omega
      have hwm : IntKind.i64.wrap ((m : Int) + 1 - 1) = (m : Int) := (i64_id _ ⟨by omega, by omega⟩).trans (by omega)
      have hwm2 : IntKind.i64.wrap ((T.size : Int) - 1) = (m : Int) := (i64_id _ ⟨by omega, by omega⟩).trans (by omega)
      have hpos : (0 : Int) < (T.size : Int) := by omega
      have hpos' : decide ((0 : Int) < (T.size : Int)) = true := decide_eq_true hpos
      generalize Tx.trimmed (T.extract 0 m) = T2 at k2
      clear hM hsf h0 hTl hm hmi
      by_cases c43 : T[m] = 43
      · have e43 : ((T[m].toNat : Int) == 43) = true := beq_yes _ 43 43 rfl c43
        rw [if_pos (beq_iff_eq.2 c43)]
        clear c43
        go_enter Tryz.func27, Tryz.ntmps27
        go_upto_region 1 with fail
        rw [HW.out]
        go_upto_region 2 with (go_at_call 50; refine (kT _).mono ?_; rintro e w1 ⟨rfl, rfl⟩)
        have hy2 := bx8_at w1 1 T ⟨#[]⟩ ⟨#[]⟩ ⟨#[]⟩ 1 false false
        have hx3 := hx.alloc (.cells #[.int .i64 1, .string T, .string ⟨#[]⟩, .string ⟨#[]⟩, .string ⟨#[]⟩, .int .i64 1, .bool false, .bool false] 24)
        have hlt := hx.lt
        have hB3 := hB.alloc hB.size (.cells #[.int .i64 1, .string T, .string ⟨#[]⟩, .string ⟨#[]⟩, .string ⟨#[]⟩, .int .i64 1, .bool false, .bool false] 24)
        generalize hA : w1.heap.size = A at hy2 hlt
        generalize hW3 : w1.alloc (.cells #[.int .i64 1, .string T, .string ⟨#[]⟩, .string ⟨#[]⟩, .string ⟨#[]⟩, .int .i64 1, .bool false, .bool false] 24) = W3 at hx3 hy2 hB3
        have HW3 := hide' hW3
        have HA := hide' hA
        clear hW3 hx hB hA
        have cc0 := hx3.c0
        have cf0 := hx3.fz 0
        have cc1 := hx3.c1
        have cf1 := hx3.fz 1
        have cc2 := hx3.c2
        have cf2 := hx3.fz 2
        have cc3 := hx3.c3
        have cf3 := hx3.fz 3
        have cc4 := hx3.c4
        have cf4 := hx3.fz 4
        have cc5 := hx3.c5
        have cf5 := hx3.fz 5
        have cc6 := hx3.c6
        have cf6 := hx3.fz 6
        have cc7 := hx3.c7
        have cf7 := hx3.fz 7
        have yc0 := hy2.c0
        have yf0 := hy2.fz 0
        have yc1 := hy2.c1
        have yf1 := hy2.fz 1
        have yc2 := hy2.c2
        have yf2 := hy2.fz 2
        have yc3 := hy2.c3
        have yf3 := hy2.fz 3
        have yc4 := hy2.c4
        have yf4 := hy2.fz 4
        have yc5 := hy2.c5
        have yf5 := hy2.fz 5
        have yc6 := hy2.c6
        have yf6 := hy2.fz 6
        have yc7 := hy2.c7
        have yf7 := hy2.fz 7
        have HX := hide' hx3
        have HY := hide' hy2
        clear hx3 hy2
        go_wp2_with (first | (go_at_call 28; refine (kL _).mono ?_; rintro e w2 ⟨rfl, rfl⟩) | (go_at_call 50; refine (k2 _).mono ?_; rintro e w2 ⟨rfl, rfl⟩))
        have hne : w.heap.size ≠ A := by omega
        have hbA : w.heap.size ≤ A := by omega
        have hx9 := (((HX.out.other hne 5 (.int .i64 4)).other hne 1 (.string T2)).other hne 2 (.string R)).set (k' := 1) (l' := T2) (r' := R) (n' := ⟨#[]⟩) (c' := ⟨#[]⟩) (s' := 4) (d' := false) (h' := false)
        have e0 := hx9.c0
        have e1 := hx9.c1
        have e2 := hx9.c2
        have e3 := hx9.c3
        have e4 := hx9.c4
        have e5 := hx9.c5
        have e6 := hx9.c6
        have e7 := hx9.c7
        refine bodyPost_ret (by simp [results, Tryz.results27, go_sem, e0, e1, e2, e3, e4, e5, e6, e7]; rfl) rfl ?_
        exact ⟨rfl, put8_below (((hB3.setCell (p := ⟨A, 5, none⟩) hbA (.int .i64 4)).setCell (p := ⟨A, 1, none⟩) hbA (.string T2)).setCell (p := ⟨A, 2, none⟩) hbA (.string R)) (Nat.le_refl _) _ _ _ _ _ _ _ _⟩
      · have e43 : ((T[m].toNat : Int) == 43) = false := beq_no _ 43 43 rfl c43
        by_cases c63 : T[m] = 63
        · have e63 : ((T[m].toNat : Int) == 63) = true := beq_yes _ 63 63 rfl c63
          rw [if_neg (fun h => c43 (eq_of_beq h)), if_pos (beq_iff_eq.2 c63)]
          clear c43 c63
          go_enter Tryz.func27, Tryz.ntmps27
          go_upto_region 1 with fail
          rw [HW.out]
          go_upto_region 2 with (go_at_call 50; refine (kT _).mono ?_; rintro e w1 ⟨rfl, rfl⟩)
          have hy2 := bx8_at w1 1 T ⟨#[]⟩ ⟨#[]⟩ ⟨#[]⟩ 1 false false
          have hx3 := hx.alloc (.cells #[.int .i64 1, .string T, .string ⟨#[]⟩, .string ⟨#[]⟩, .string ⟨#[]⟩, .int .i64 1, .bool false, .bool false] 24)
          have hlt := hx.lt
          have hB3 := hB.alloc hB.size (.cells #[.int .i64 1, .string T, .string ⟨#[]⟩, .string ⟨#[]⟩, .string ⟨#[]⟩, .int .i64 1, .bool false, .bool false] 24)
          generalize hA : w1.heap.size = A at hy2 hlt
          generalize hW3 : w1.alloc (.cells #[.int .i64 1, .string T, .string ⟨#[]⟩, .string ⟨#[]⟩, .string ⟨#[]⟩, .int .i64 1, .bool false, .bool false] 24) = W3 at hx3 hy2 hB3
          have HW3 := hide' hW3
          have HA := hide' hA
          clear hW3 hx hB hA
          have cc0 := hx3.c0
          have cf0 := hx3.fz 0
          have cc1 := hx3.c1
          have cf1 := hx3.fz 1
          have cc2 := hx3.c2
          have cf2 := hx3.fz 2
          have cc3 := hx3.c3
          have cf3 := hx3.fz 3
          have cc4 := hx3.c4
          have cf4 := hx3.fz 4
          have cc5 := hx3.c5
          have cf5 := hx3.fz 5
          have cc6 := hx3.c6
          have cf6 := hx3.fz 6
          have cc7 := hx3.c7
          have cf7 := hx3.fz 7
          have yc0 := hy2.c0
          have yf0 := hy2.fz 0
          have yc1 := hy2.c1
          have yf1 := hy2.fz 1
          have yc2 := hy2.c2
          have yf2 := hy2.fz 2
          have yc3 := hy2.c3
          have yf3 := hy2.fz 3
          have yc4 := hy2.c4
          have yf4 := hy2.fz 4
          have yc5 := hy2.c5
          have yf5 := hy2.fz 5
          have yc6 := hy2.c6
          have yf6 := hy2.fz 6
          have yc7 := hy2.c7
          have yf7 := hy2.fz 7
          have HX := hide' hx3
          have HY := hide' hy2
          clear hx3 hy2
          go_wp2_with (first | (go_at_call 28; refine (kL _).mono ?_; rintro e w2 ⟨rfl, rfl⟩) | (go_at_call 50; refine (k2 _).mono ?_; rintro e w2 ⟨rfl, rfl⟩))
          have hne : w.heap.size ≠ A := by omega
          have hbA : w.heap.size ≤ A := by omega
          have hx9 := (((HX.out.other hne 5 (.int .i64 3)).other hne 1 (.string T2)).other hne 2 (.string R)).set (k' := 1) (l' := T2) (r' := R) (n' := ⟨#[]⟩) (c' := ⟨#[]⟩) (s' := 3) (d' := false) (h' := false)
          have e0 := hx9.c0
          have e1 := hx9.c1
          have e2 := hx9.c2
          have e3 := hx9.c3
          have e4 := hx9.c4
          have e5 := hx9.c5
          have e6 := hx9.c6
          have e7 := hx9.c7
          refine bodyPost_ret (by simp [results, Tryz.results27, go_sem, e0, e1, e2, e3, e4, e5, e6, e7]; rfl) rfl ?_
          exact ⟨rfl, put8_below (((hB3.setCell (p := ⟨A, 5, none⟩) hbA (.int .i64 3)).setCell (p := ⟨A, 1, none⟩) hbA (.string T2)).setCell (p := ⟨A, 2, none⟩) hbA (.string R)) (Nat.le_refl _) _ _ _ _ _ _ _ _⟩
        · have e63 : ((T[m].toNat : Int) == 63) = false := beq_no _ 63 63 rfl c63
          by_cases c33 : T[m] = 33
          · have e33 : ((T[m].toNat : Int) == 33) = true := beq_yes _ 33 33 rfl c33
            rw [if_neg (fun h => c43 (eq_of_beq h)), if_neg (fun h => c63 (eq_of_beq h)), if_pos (beq_iff_eq.2 c33)]
            clear c43 c63 c33
            go_enter Tryz.func27, Tryz.ntmps27
            go_upto_region 1 with fail
            rw [HW.out]
            go_upto_region 2 with (go_at_call 50; refine (kT _).mono ?_; rintro e w1 ⟨rfl, rfl⟩)
            have hy2 := bx8_at w1 1 T ⟨#[]⟩ ⟨#[]⟩ ⟨#[]⟩ 1 false false
            have hx3 := hx.alloc (.cells #[.int .i64 1, .string T, .string ⟨#[]⟩, .string ⟨#[]⟩, .string ⟨#[]⟩, .int .i64 1, .bool false, .bool false] 24)
            have hlt := hx.lt
            have hB3 := hB.alloc hB.size (.cells #[.int .i64 1, .string T, .string ⟨#[]⟩, .string ⟨#[]⟩, .string ⟨#[]⟩, .int .i64 1, .bool false, .bool false] 24)
            generalize hA : w1.heap.size = A at hy2 hlt
            generalize hW3 : w1.alloc (.cells #[.int .i64 1, .string T, .string ⟨#[]⟩, .string ⟨#[]⟩, .string ⟨#[]⟩, .int .i64 1, .bool false, .bool false] 24) = W3 at hx3 hy2 hB3
            have HW3 := hide' hW3
            have HA := hide' hA
            clear hW3 hx hB hA
            have cc0 := hx3.c0
            have cf0 := hx3.fz 0
            have cc1 := hx3.c1
            have cf1 := hx3.fz 1
            have cc2 := hx3.c2
            have cf2 := hx3.fz 2
            have cc3 := hx3.c3
            have cf3 := hx3.fz 3
            have cc4 := hx3.c4
            have cf4 := hx3.fz 4
            have cc5 := hx3.c5
            have cf5 := hx3.fz 5
            have cc6 := hx3.c6
            have cf6 := hx3.fz 6
            have cc7 := hx3.c7
            have cf7 := hx3.fz 7
            have yc0 := hy2.c0
            have yf0 := hy2.fz 0
            have yc1 := hy2.c1
            have yf1 := hy2.fz 1
            have yc2 := hy2.c2
            have yf2 := hy2.fz 2
            have yc3 := hy2.c3
            have yf3 := hy2.fz 3
            have yc4 := hy2.c4
            have yf4 := hy2.fz 4
            have yc5 := hy2.c5
            have yf5 := hy2.fz 5
            have yc6 := hy2.c6
            have yf6 := hy2.fz 6
            have yc7 := hy2.c7
            have yf7 := hy2.fz 7
            have HX := hide' hx3
            have HY := hide' hy2
            clear hx3 hy2
            go_wp2_with (first | (go_at_call 28; refine (kL _).mono ?_; rintro e w2 ⟨rfl, rfl⟩) | (go_at_call 50; refine (k2 _).mono ?_; rintro e w2 ⟨rfl, rfl⟩))
            have hne : w.heap.size ≠ A := by omega
            have hbA : w.heap.size ≤ A := by omega
            have hx9 := (((HX.out.other hne 5 (.int .i64 5)).other hne 1 (.string T2)).other hne 2 (.string R)).set (k' := 1) (l' := T2) (r' := R) (n' := ⟨#[]⟩) (c' := ⟨#[]⟩) (s' := 5) (d' := false) (h' := false)
            have e0 := hx9.c0
            have e1 := hx9.c1
            have e2 := hx9.c2
            have e3 := hx9.c3
            have e4 := hx9.c4
            have e5 := hx9.c5
            have e6 := hx9.c6
            have e7 := hx9.c7
            refine bodyPost_ret (by simp [results, Tryz.results27, go_sem, e0, e1, e2, e3, e4, e5, e6, e7]; rfl) rfl ?_
            exact ⟨rfl, put8_below (((hB3.setCell (p := ⟨A, 5, none⟩) hbA (.int .i64 5)).setCell (p := ⟨A, 1, none⟩) hbA (.string T2)).setCell (p := ⟨A, 2, none⟩) hbA (.string R)) (Nat.le_refl _) _ _ _ _ _ _ _ _⟩
          · have e33 : ((T[m].toNat : Int) == 33) = false := beq_no _ 33 33 rfl c33
            rw [if_neg (fun h => c43 (eq_of_beq h)), if_neg (fun h => c63 (eq_of_beq h)), if_neg (fun h => c33 (eq_of_beq h))]
            clear c43 c63 c33
            go_enter Tryz.func27, Tryz.ntmps27
            go_upto_region 1 with fail
            rw [HW.out]
            go_upto_region 2 with (go_at_call 50; refine (kT _).mono ?_; rintro e w1 ⟨rfl, rfl⟩)
            have hy2 := bx8_at w1 1 T ⟨#[]⟩ ⟨#[]⟩ ⟨#[]⟩ 1 false false
            have hx3 := hx.alloc (.cells #[.int .i64 1, .string T, .string ⟨#[]⟩, .string ⟨#[]⟩, .string ⟨#[]⟩, .int .i64 1, .bool false, .bool false] 24)
            have hlt := hx.lt
            have hB3 := hB.alloc hB.size (.cells #[.int .i64 1, .string T, .string ⟨#[]⟩, .string ⟨#[]⟩, .string ⟨#[]⟩, .int .i64 1, .bool false, .bool false] 24)
            generalize hA : w1.heap.size = A at hy2 hlt
            generalize hW3 : w1.alloc (.cells #[.int .i64 1, .string T, .string ⟨#[]⟩, .string ⟨#[]⟩, .string ⟨#[]⟩, .int .i64 1, .bool false, .bool false] 24) = W3 at hx3 hy2 hB3
            have HW3 := hide' hW3
            have HA := hide' hA
            clear hW3 hx hB hA
            have cc0 := hx3.c0
            have cf0 := hx3.fz 0
            have cc1 := hx3.c1
            have cf1 := hx3.fz 1
            have cc2 := hx3.c2
            have cf2 := hx3.fz 2
            have cc3 := hx3.c3
            have cf3 := hx3.fz 3
            have cc4 := hx3.c4
            have cf4 := hx3.fz 4
            have cc5 := hx3.c5
            have cf5 := hx3.fz 5
            have cc6 := hx3.c6
            have cf6 := hx3.fz 6
            have cc7 := hx3.c7
            have cf7 := hx3.fz 7
            have yc0 := hy2.c0
            have yf0 := hy2.fz 0
            have yc1 := hy2.c1
            have yf1 := hy2.fz 1
            have yc2 := hy2.c2
            have yf2 := hy2.fz 2
            have yc3 := hy2.c3
            have yf3 := hy2.fz 3
            have yc4 := hy2.c4
            have yf4 := hy2.fz 4
            have yc5 := hy2.c5
            have yf5 := hy2.fz 5
            have yc6 := hy2.c6
            have yf6 := hy2.fz 6
            have yc7 := hy2.c7
            have yf7 := hy2.fz 7
            have HX := hide' hx3
            have HY := hide' hy2
            clear hx3 hy2
            go_wp2_with (first | (go_at_call 28; refine (kL _).mono ?_; rintro e w2 ⟨rfl, rfl⟩))
            have hne : w.heap.size ≠ A := by omega
            have hbA : w.heap.size ≤ A := by omega
            have hx9 := (HX.out.other hne 2 (.string R)).set (k' := 1) (l' := T) (r' := R) (n' := ⟨#[]⟩) (c' := ⟨#[]⟩) (s' := 1) (d' := false) (h' := false)
            have e0 := hx9.c0
            have e1 := hx9.c1
            have e2 := hx9.c2
            have e3 := hx9.c3
            have e4 := hx9.c4
            have e5 := hx9.c5
            have e6 := hx9.c6
            have e7 := hx9.c7
            refine bodyPost_ret (by simp [results, Tryz.results27, go_sem, e0, e1, e2, e3, e4, e5, e6, e7]; rfl) rfl ?_
            exact ⟨rfl, put8_below (hB3.setCell (p := ⟨A, 2, none⟩) hbA (.string R)) (Nat.le_refl _) _ _ _ _ _ _ _ _⟩
end Go.Proofs.YtchnimlnoolkiaaGreatDoor
