/- The contracts of the reference's Name, and of its Index at a bracket. -/
import Derived.Test.YthkjinhnnilalaaGreatDoorGpl
namespace Go.Proofs.YthkjinhnnilalaaGreatDoor
open Go.RowKit Go.Shelf

theorem pre_take (l p : Bs) : Lib.hasPrefix l p = (l.take p.length == p) := by
  unfold Lib.hasPrefix
  rw [Bool.eq_iff_iff]
  constructor
  · intro h
    have h1 := List.isPrefixOf_iff_prefix.1 h
    rw [List.prefix_iff_eq_take] at h1
    rw [← h1]
    exact beq_self_eq_true _
  · intro h
    exact List.isPrefixOf_iff_prefix.2 (by rw [List.prefix_iff_eq_take]; exact (eq_of_beq h).symm)
theorem nm_step (x : ByteArray) (h : Lib.hasPrefix (tl x) [46, 47] = true) : ((tl x).drop 1).dropWhile sl47 = ((tl x).drop 2).dropWhile sl47 := by
  obtain ⟨r, hr⟩ : ∃ r, tl x = 46 :: 47 :: r := by
    obtain ⟨t, ht⟩ := (List.isPrefixOf_iff_prefix.1 h : [46, 47] <+: tl x)
    exact ⟨t, by rw [← ht]; rfl⟩
  rw [hr]
  simp [sl47]
set_option maxRecDepth 100000 in
set_option maxHeartbeats 2000000 in
theorem rname_any (s : ByteArray) (hs : s.size ≤ 1000000) (w : World) : Calls Tryz.prog 8 #[.string s] w fun e w' => e = .returned (.string (nmB s)) ∧ w' = w := by
  obtain ⟨R, hR⟩ : ∃ R, R = nmL s.size (tl s) := ⟨_, rfl⟩
  have HR := hide' hR
  have hN : nmB s = mk (nmE R) := by unfold nmB; rw [hR]
  rw [hN]
  clear hN hR
  go_enter Tryz.func8, Tryz.ntmps8
  go_wp2
  go_loop [0] (fun i => ∃ (x : ByteArray) (f : Nat), x.size ≤ f ∧ x.size ≤ s.size ∧ i = .string x ∧ Hid (nmL f (tl x) = R)) (fun i => szOf i)
  case atStart => exact ⟨s, s.size, Nat.le_refl _, Nat.le_refl _, rfl, HR.out.symm⟩
  case round =>
    clear HR
    obtain ⟨x, f, hf, hxs, rfl, HI⟩ := hrel
    have fin : Lib.hasPrefix (tl x) [46, 47] = false → Hid (tl x = R) := fun hp => by
      show _ = _
      rw [← HI.out]
      cases f with
      | zero => rfl
      | succ f =>
        conv => rhs; unfold nmL
        rw [hp]
        rfl
    by_cases h2 : 2 ≤ x.size
    · have d1 : decide ((2 : Int) ≤ (x.size : Int)) = true := decide_eq_true (by omega)
      have sT := sl_to x 2 h2
      have sF := sl_from x 2 h2
      rw [show (((2 : Nat) : Int)) = 2 from rfl] at sT sF
      have hpe : ((x.extract 0 2).toList == [46, 47]) = Lib.hasPrefix (tl x) [46, 47] := by
        rw [pre_take, Lib.toList_data, ext_take]
        simp
      generalize x.extract 0 2 = a at sT hpe
      cases hp : Lib.hasPrefix (tl x) [46, 47] with
      | true =>
        rw [hp] at hpe
        obtain ⟨f, rfl⟩ : ∃ f', f = f' + 1 := ⟨f - 1, by omega⟩
        have HI' : Hid (nmL f (((tl x).drop 2).dropWhile sl47) = R) := by
          show _ = _
          rw [← HI.out, ← nm_step x hp]
          conv => rhs; unfold nmL
          rw [if_pos hp]
        obtain ⟨y0, hy0⟩ : ∃ y0, y0 = x.extract 2 x.size := ⟨_, rfl⟩
        have hyt : tl y0 = (tl x).drop 2 := by rw [hy0, ext_drop, tl_mk]
        have hys : y0.size ≤ x.size - 2 := by rw [hy0, ByteArray.size_extract]; omega
        rw [← hy0] at sF
        rw [← hyt] at HI'
        clear hp HI fin hy0 hyt
        go_wp2
        go_loop [0] (fun i => ∃ y : ByteArray, y.size ≤ x.size - 2 ∧ i = .string y ∧ Hid (nmL f ((tl y).dropWhile sl47) = R)) (fun i => szOf i)
        case atStart => exact ⟨y0, hys, rfl, HI'⟩
        case round =>
          clear HI' hys sT sF hpe d1
          obtain ⟨y, hy, rfl, HJ⟩ := hrel
          by_cases h0 : 0 < y.size
          · have d0 : decide ((0 : Int) < (y.size : Int)) = true := decide_eq_true (by omega)
            have hyc : tl y = y[0] :: (tl y).drop 1 := by have := drop_at y 0 h0; rwa [List.drop_zero] at this
            by_cases h47 : y[0] = 47
            · have e1 := beq_yes y[0] 47 47 rfl h47
              have sF := sl_from y 1 (by omega)
              rw [show (((1 : Nat) : Int)) = 1 from rfl] at sF
              have HJ' : Hid (nmL f ((tl (y.extract 1 y.size)).dropWhile sl47) = R) := by
                show _ = _
                rw [← HJ.out, ext_drop, tl_mk]
                conv => rhs; rw [hyc]
                rw [List.dropWhile_cons_of_pos (by rw [h47]; rfl)]
              have hzs : (y.extract 1 y.size).size ≤ y.size - 1 := by rw [ByteArray.size_extract]; omega
              generalize y.extract 1 y.size = z at sF HJ' hzs
              clear HJ h47 hyc
              go_wp2
              exact ⟨⟨z, by omega, rfl, HJ'⟩, by show z.size < y.size; omega⟩
            · have e1 := beq_no y[0] 47 47 rfl h47
              have HK : Hid (nmL f (tl y) = R) := by
                show _ = _
                rw [← HJ.out]
                conv => rhs; rw [hyc]
                rw [List.dropWhile_cons_of_neg (by unfold sl47; rw [beq_iff_eq]; exact h47), ← hyc]
              clear HJ h47 hyc
              go_wp2
              exact ⟨⟨y, f, by omega, by omega, rfl, HK⟩, by show y.size < x.size; omega⟩
          · have d0 : decide ((0 : Int) < (y.size : Int)) = false := decide_eq_false (by omega)
            have HK : Hid (nmL f (tl y) = R) := by
              show _ = _
              rw [← HJ.out, show tl y = [] from List.length_eq_zero_iff.1 (by rw [tl_len]; omega)]
              rfl
            clear HJ
            go_wp2
            exact ⟨⟨y, f, by omega, by omega, rfl, HK⟩, by show y.size < x.size; omega⟩
      | false =>
        rw [hp] at hpe
        have HF := fin hp
        clear fin HI hp sF
        cases he : (tl x).isEmpty with
        | true =>
          have he' : x.toList.isEmpty = true := by rw [emp_of]; exact he
          have HG : Hid (mk (nmE R) = ⟨#[46]⟩) := by
            show _ = _
            rw [← HF.out]
            unfold nmE
            rw [if_pos he]
          clear he
          go_wp2
          go_ret
          rw [HG.out]
          exact ⟨rfl, rfl⟩
        | false =>
          have he' : x.toList.isEmpty = false := by rw [emp_of]; exact he
          have HG : Hid (mk (nmE R) = x) := by
            show _ = _
            rw [← HF.out]
            unfold nmE
            rw [if_neg (by rw [he]; decide), mk_tl]
          clear he
          go_wp2
          go_ret
          rw [HG.out]
          exact ⟨rfl, rfl⟩
    · have d1 : decide ((2 : Int) ≤ (x.size : Int)) = false := decide_eq_false (by omega)
      have HF := fin (by
        cases hp : Lib.hasPrefix (tl x) [46, 47] with
        | false => rfl
        | true =>
          have hl := (List.isPrefixOf_iff_prefix.1 hp).length_le
          rw [tl_len] at hl
          exact absurd hl h2)
      clear fin HI
      cases he : (tl x).isEmpty with
      | true =>
        have he' : x.toList.isEmpty = true := by rw [emp_of]; exact he
        have HG : Hid (mk (nmE R) = ⟨#[46]⟩) := by
          show _ = _
          rw [← HF.out]
          unfold nmE
          rw [if_pos he]
        clear he
        go_wp2
        go_ret
        rw [HG.out]
        exact ⟨rfl, rfl⟩
      | false =>
        have he' : x.toList.isEmpty = false := by rw [emp_of]; exact he
        have HG : Hid (mk (nmE R) = x) := by
          show _ = _
          rw [← HF.out]
          unfold nmE
          rw [if_neg (by rw [he]; decide), mk_tl]
        clear he
        go_wp2
        go_ret
        rw [HG.out]
        exact ⟨rfl, rfl⟩
def shf (k : Nat) (r : Int) : Int := if r = -1 then -1 else k + r
theorem shf_no (c x : UInt8) (k : Nat) (r : Bs) (h : ¬ x = c) : shf k (Lib.indexByte (x :: r) c) = shf (k + 1) (Lib.indexByte r c) := by
  have := ib_lt c r
  unfold shf
  rw [Lib.indexByte]
  have e : (x == c) = false := beq_eq_false_iff_ne.2 h
  rw [e]
  by_cases hr : Lib.indexByte r c = -1
  · simp [hr]
  · have e2 : (Lib.indexByte r c == -1) = false := beq_eq_false_iff_ne.2 hr
    rw [e2]
    simp only [Bool.false_eq_true, if_false, if_neg hr]
    rw [if_neg (by omega)]
    omega
theorem shf_yes (c x : UInt8) (k : Nat) (r : Bs) (h : x = c) : shf k (Lib.indexByte (x :: r) c) = k := by
  unfold shf
  rw [Lib.indexByte, h]
  simp
set_option maxHeartbeats 1000000 in
theorem rindex40_any (s : ByteArray) (hs : s.size ≤ 1000000) (w : World) : Calls Tryz.prog 24 #[.string s, .int .u8 40] w fun e w' => e = .returned (.int .i64 (Lib.indexByte (tl s) 40)) ∧ w' = w := by
  obtain ⟨R, hR⟩ : ∃ R, R = Lib.indexByte (tl s) 40 := ⟨_, rfl⟩
  have HR := hide' hR
  rw [← hR]
  clear hR
  go_enter Tryz.func24, Tryz.ntmps24
  go_wp2
  go_loop [5] (fun i => ∃ k : Nat, k ≤ s.size ∧ i = .int .i64 k ∧ Hid (shf k (Lib.indexByte ((tl s).drop k) 40) = R)) (fun i => s.size - (intOf i).toNat)
  case atStart => exact ⟨0, Nat.zero_le _, rfl, by show _ = _; rw [HR.out, List.drop_zero]; unfold shf; split <;> omega⟩
  case round =>
    clear HR
    obtain ⟨k, hk, rfl, HI⟩ := hrel
    by_cases hlt : k < s.size
    · have hd := drop_at s k hlt
      by_cases h40 : s[k] = 40
      · have e1 := beq_yes s[k] 40 40 rfl h40
        have HF : Hid (R = (k : Int)) := by
          show _ = _
          rw [← HI.out, hd, shf_yes 40 _ k _ h40]
        clear HI hd h40
        go_wp2
        go_ret
        rw [HF.out]
        exact ⟨rfl, rfl⟩
      · have e1 := beq_no s[k] 40 40 rfl h40
        have HF : Hid (shf (k + 1) (Lib.indexByte ((tl s).drop (k + 1)) 40) = R) := by
          show _ = _
          rw [← HI.out, hd, shf_no 40 _ k _ h40]
        clear HI hd h40
        go_wp2
        exact ⟨⟨k + 1, by omega, by go_num, HF⟩, by simp [intOf]; omega⟩
    · obtain rfl : k = s.size := by omega
      have HF : Hid (R = -1) := by
        show _ = _
        rw [← HI.out, drop_end s s.size (Nat.le_refl _)]
        rfl
      clear HI
      go_wp2
      go_ret
      rw [HF.out]
      exact ⟨rfl, rfl⟩
end Go.Proofs.YthkjinhnnilalaaGreatDoor
