/- The contracts of the reference's Match, Put and Subst. -/
import Derived.Test.YtbegdhbpcgflkaaSubst
namespace Go.Proofs.Ytbegdhbpcgflkaa
open Go.RowKit Go.Shelf

theorem ret_tup {a b : ByteArray} {x y : Bool} (h : a = b) (k : x = y) : Ending.returned (.tuple #[.string a, .bool x]) = .returned (.tuple #[.string b, .bool y]) := by rw [h, k]
theorem ip_yes (l : List UInt8) (h : opn l = true) : ip l = fp l := by unfold ip; rw [if_pos h]
theorem ip_no (l : List UInt8) (h : opn l = false) : ip l = -1 := by unfold ip; rw [h]; rfl
theorem tl_app (a b : ByteArray) : tl (a ++ b) = tl a ++ tl b := by simp [tl]
theorem app_mk (a b : ByteArray) (l : List UInt8) (h : tl a ++ tl b = l) : a ++ b = mk l := tl_inj _ _ (by rw [tl_app, tl_mk]; exact h)

set_option maxHeartbeats 400000 in
theorem rput_any (p s : ByteArray) (w : World) (hp : p.size ≤ 1000000) (hs : s.size ≤ 1000000) :
    Calls Try.prog 12 #[.string p, .string s] w fun e w' => e = .returned (.string (mk (put (tl p) (tl s)))) ∧ Below w.heap.size w w' := by
  have q := fun w => rindex_any p w hp
  cases ho : opn (tl p) with
  | false =>
    rw [ip_no _ ho] at q
    have hx : mk (put (tl p) (tl s)) = p := by unfold put ps; rw [ho, ahd_no _ ho]; exact mk_tl p
    rw [hx]
    clear ho hx
    go_enter Try.func12, Try.ntmps12
    go_wp2_with fail
    refine (q _).mono ?_
    rintro e w1 ⟨rfl, rfl⟩
    go_wp2
    go_ret
    exact ⟨rfl, Below.refl _ _⟩
  | true =>
    rw [ip_yes _ ho] at q
    have hx : mk (put (tl p) (tl s)) = p.extract 0 (fp (tl p)) ++ s ++ p.extract (fp (tl p) + 1) p.size := by
      rw [ext_take, ext_drop]
      refine (app_mk _ _ _ ?_).symm
      rw [tl_app, tl_mk ((tl p).take _), tl_mk ((tl p).drop _)]
      unfold put ps
      rw [ho, List.append_assoc]
      rfl
    have hf := fp_yes _ ho
    rw [tl_len] at hf
    rw [hx]
    clear ho hx
    generalize fp (tl p) = m at q hf
    have z1 : (p.extract 0 m).size + s.size ≤ 3000000 := by rw [ByteArray.size_extract]; omega
    have z2 : (p.extract 0 m ++ s).size + (p.extract (m + 1) p.size).size ≤ 4000000 := by rw [ByteArray.size_append, ByteArray.size_extract, ByteArray.size_extract]; omega
    go_enter Try.func12, Try.ntmps12
    go_wp2_with fail
    refine (q _).mono ?_
    rintro e w1 ⟨rfl, rfl⟩
    go_wp2
    go_quiet (fail)
    go_wp2
    go_ret
    exact ⟨rfl, below_drewn nq⟩

theorem ret_tup2 {l : List UInt8} {y : Bool} {x : List UInt8 × Bool} (h : (l, y) = x) : Ending.returned (.tuple #[.string (mk l), .bool y]) = .returned (.tuple #[.string (mk x.1), .bool x.2]) := by rw [← h]
theorem rm_at (p s : ByteArray) (m : Nat) (ho : opn (tl p) = true) (hm : m = fp (tl p)) : mt (tl p) (tl s) = if (decide (m + (p.size - (m + 1)) ≤ s.size) && (((tl s).take m == (tl p).take m) && ((tl s).drop (s.size - (p.size - (m + 1))) == (tl p).drop (m + 1)))) then ((((tl s).drop m).take (s.size - m - (p.size - (m + 1)))), true) else ([], false) := by
  unfold mt ms
  rw [ho, both_iff]
  unfold stem
  rw [ahd_len, bhd_len, tl_len, tl_len]
  unfold ahd bhd
  rw [← hm]
  rfl
theorem ext_list (s : ByteArray) (a b : Nat) : (s.extract a b).toList = ((tl s).drop a).take (b - a) := Lib.extract_toList s a b
theorem ext_all (s : ByteArray) (a : Nat) : (s.extract a s.size).toList = (tl s).drop a := by rw [ext_list, List.take_of_length_le (by rw [List.length_drop, tl_len]; omega)]
theorem rm_no1 (p s : ByteArray) (m : Nat) (ho : opn (tl p) = true) (hm : m = fp (tl p)) (h : s.size < m + (p.size - (m + 1))) : mt (tl p) (tl s) = ([], false) := by
  rw [rm_at p s m ho hm, if_neg]
  simp; omega
theorem rm_no2 (p s : ByteArray) (m : Nat) (ho : opn (tl p) = true) (hm : m = fp (tl p)) (h : ¬ (s.extract 0 (min m p.size)).toList = (p.extract 0 m).toList) : mt (tl p) (tl s) = ([], false) := by
  have hf := fp_yes _ ho
  rw [tl_len, ← hm] at hf
  rw [Nat.min_eq_left (by omega), ext_list, ext_list, List.drop_zero, List.drop_zero] at h
  rw [rm_at p s m ho hm, if_neg]
  intro e
  simp at e
  exact h e.2.1
theorem rm_no3 (p s : ByteArray) (m : Nat) (ho : opn (tl p) = true) (hm : m = fp (tl p)) (h : ¬ (s.extract (s.size - (p.size - (m + 1))) s.size).toList = (p.extract (m + 1) p.size).toList) : mt (tl p) (tl s) = ([], false) := by
  rw [ext_all, ext_all] at h
  rw [rm_at p s m ho hm, if_neg]
  intro e
  simp at e
  exact h e.2.2
theorem rm_yes (p s : ByteArray) (m : Nat) (ho : opn (tl p) = true) (hm : m = fp (tl p)) (h1 : m + (p.size - (m + 1)) ≤ s.size) (h2 : (s.extract 0 (min m p.size)).toList = (p.extract 0 m).toList)
    (h3 : (s.extract (s.size - (p.size - (m + 1))) s.size).toList = (p.extract (m + 1) p.size).toList) : mt (tl p) (tl s) = (tl (s.extract (min m p.size) (s.size - (p.size - (m + 1)))), true) := by
  have hf := fp_yes _ ho
  rw [tl_len, ← hm] at hf
  rw [Nat.min_eq_left (by omega), ext_list, ext_list, List.drop_zero, List.drop_zero] at h2
  rw [ext_all, ext_all] at h3
  rw [Nat.min_eq_left (by omega), rm_at p s m ho hm, if_pos, ext_mk, tl_mk (((tl s).drop m).take _)]
  · rw [show s.size - (p.size - (m + 1)) - m = s.size - m - (p.size - (m + 1)) by omega]
  · simp only [Nat.sub_zero] at h2
    simp [h1, h2, h3]

set_option maxHeartbeats 400000 in
theorem rmatch_any (p s : ByteArray) (w : World) (hp : p.size ≤ 1000000) (hs : s.size ≤ 1000000) :
    Calls Try.prog 8 #[.string p, .string s] w fun e w' => e = .returned (.tuple #[.string (mk (mt (tl p) (tl s)).1), .bool (mt (tl p) (tl s)).2]) ∧ w' = w := by
  have q := fun w => rindex_any p w hp
  cases ho : opn (tl p) with
  | false =>
    rw [ip_no _ ho] at q
    have hx : mt (tl p) (tl s) = ([], tl s == tl p) := by unfold mt ms; rw [ho, ahd_no _ ho]; rfl
    rw [hx]
    have e3 := beq_list p s
    have e4 : (tl s == tl p) = (tl p == tl s) := Bool.beq_comm
    dsimp only
    rw [e4]
    generalize (tl p == tl s) = r at e3
    clear ho hx e4
    go_enter Try.func8, Try.ntmps8
    go_wp2_with fail
    refine (q _).mono ?_
    rintro e w1 ⟨rfl, rfl⟩
    go_wp2
    go_ret2
    exact ⟨rfl, rfl⟩
  | true =>
    rw [ip_yes _ ho] at q
    have hf := fp_yes _ ho
    rw [tl_len] at hf
    obtain ⟨x, hx⟩ : ∃ x, x = mt (tl p) (tl s) := ⟨_, rfl⟩
    rw [← hx]
    obtain ⟨m, hm⟩ : ∃ m, m = fp (tl p) := ⟨_, rfl⟩
    rw [← hm] at q hf
    have HX := hide' hx
    have HM := hide' hm
    clear hx hm
    go_enter Try.func8, Try.ntmps8
    go_wp2_with fail
    refine (q _).mono ?_
    rintro e w1 ⟨rfl, rfl⟩
    go_wp2
    · rename_i h0 h1 h2 h3 h4 h5
      go_ret2
      exact ⟨ret_tup2 (HX.out.trans (rm_no3 p s _ ho HM.out (by
        rcases h5 with h5 | h5
        · omega
        · intro e
          rw [e] at h5
          simp at h5))).symm, rfl⟩
    · rename_i h0 h1 h2 h3 h4 h5
      go_ret2
      exact ⟨ret_tup2 (HX.out.trans (rm_yes p s _ ho HM.out (by omega) h3 (by simpa using h5.2))).symm, rfl⟩
    · rename_i h0 h1 h2 h3
      go_ret2
      exact ⟨ret_tup2 (HX.out.trans (rm_no2 p s _ ho HM.out h3)).symm, rfl⟩
    · rename_i h0 h1
      go_ret2
      exact ⟨ret_tup2 (HX.out.trans (rm_no1 p s _ ho HM.out (by omega))).symm, rfl⟩

set_option maxHeartbeats 400000 in
theorem rsubst_any (p t s : ByteArray) (w : World) (hp : p.size ≤ 1000000) (ht : t.size ≤ 1000000) (hs : s.size ≤ 1000000) :
    Calls Try.prog 14 #[.string p, .string t, .string s] w fun e w' => e = .returned (.string (mk (sub (tl p) (tl t) (tl s)))) ∧ Below w.heap.size w w' := by
  have q1 := fun w => rmatch_any p s w hp hs
  have q2 := fun w => rindex_any p w hp
  have hl := mt_len (tl p) (tl s)
  rw [tl_len] at hl
  have hm : (mk (mt (tl p) (tl s)).1).size ≤ 1000000 := by rw [mk_size]; omega
  have q5 := fun w => rput_any t (mk (mt (tl p) (tl s)).1) w ht hm
  simp only [tl_mk] at q5
  have hx : mk (sub (tl p) (tl t) (tl s)) = if (mt (tl p) (tl s)).2 then (if opn (tl p) then mk (put (tl t) (mt (tl p) (tl s)).1) else t) else s := by
    unfold sub
    split
    · split
      · rfl
      · exact mk_tl t
    · exact mk_tl s
  rw [hx]
  clear hx hl hm
  generalize mk (put (tl t) (mt (tl p) (tl s)).1) = z at q5
  generalize mk (mt (tl p) (tl s)).1 = x at q1 q5
  generalize (mt (tl p) (tl s)).2 = y at q1
  cases y with
  | false =>
    clear q2 q5
    go_enter Try.func14, Try.ntmps14
    go_wp2_with fail
    refine (q1 _).mono ?_
    rintro e w1 ⟨rfl, rfl⟩
    go_wp2
    go_ret
    exact ⟨rfl, Below.refl _ _⟩
  | true =>
    cases ho : opn (tl p) with
    | false =>
      rw [ip_no _ ho] at q2
      clear ho q5
      go_enter Try.func14, Try.ntmps14
      go_wp2_with fail
      refine (q1 _).mono ?_
      rintro e w1 ⟨rfl, rfl⟩
      go_wp2_with fail
      refine (q2 _).mono ?_
      rintro e w1 ⟨rfl, rfl⟩
      go_wp2
      go_ret
      exact ⟨rfl, Below.refl _ _⟩
    | true =>
      rw [ip_yes _ ho] at q2
      clear ho
      generalize fp (tl p) = m at q2
      go_enter Try.func14, Try.ntmps14
      go_wp2_with fail
      refine (q1 _).mono ?_
      rintro e w1 ⟨rfl, rfl⟩
      go_wp2_with fail
      refine (q2 _).mono ?_
      rintro e w1 ⟨rfl, rfl⟩
      go_wp2_with fail
      refine (q5 _).mono ?_
      rintro e w2 ⟨rfl, hb⟩
      go_wp2
      go_ret
      exact ⟨rfl, hb⟩
end Go.Proofs.Ytbegdhbpcgflkaa
