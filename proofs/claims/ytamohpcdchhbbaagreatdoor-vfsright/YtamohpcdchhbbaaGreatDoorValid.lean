/- The contracts of strings.ContainsAny, path.validName and path.Valid. -/
import Derived.Test.YtamohpcdchhbbaaGreatDoorAny
namespace Go.Proofs.YtamohpcdchhbbaaGreatDoor
open Go.RowKit Go.Shelf

theorem list_ne (a b : ByteArray) (h : a ≠ b) : (a.toList == b.toList) = false := beq_eq_false_iff_ne.2 fun e => h (tl_inj _ _ (by unfold tl; rw [← Lib.toList_data, ← Lib.toList_data]; exact e))
theorem tw_mem (K : List (List UInt8)) (x : List UInt8) (h : x ∈ K) : x.length ≤ tw K := by
  induction K with
  | nil => cases h
  | cons y r ih =>
    rcases List.mem_cons.1 h with rfl | h
    · simp only [tw]; omega
    · have := ih h; simp only [tw]; omega

theorem zero51 : (Tryz.prog.info? 193).map (fun i => (i.zero, i.size)) = some (some (.agg (Array.replicate 256 (.bool false))), 256) := by kernel_rfl
theorem indexAny_has (l : List UInt8) : 0 ≤ Lib.indexAny l [0, 10] ↔ has l = true := by
  induction l with
  | nil => simp [Lib.indexAny, has]
  | cons b r ih =>
    have hge := Lib.indexAny_ge [0, 10] r
    by_cases hb : ([0, 10] : List UInt8).contains b = true
    · have e1 : Lib.indexAny (b :: r) [0, 10] = 0 := by rw [Lib.indexAny, if_pos hb]
      rw [e1]
      have hb' : b = 0 ∨ b = 10 := by simpa using hb
      have e2 : has (b :: r) = true := by unfold has; rcases hb' with rfl | rfl <;> simp
      rw [e2]
      simp
    · have hb' : ¬ (b = 0 ∨ b = 10) := by simpa using hb
      have e2 : has (b :: r) = has r := by
        unfold has
        have h0 : ((0 : UInt8) == b) = false := beq_eq_false_iff_ne.2 fun e => hb' (.inl e.symm)
        have h1 : ((10 : UInt8) == b) = false := beq_eq_false_iff_ne.2 fun e => hb' (.inr e.symm)
        rw [List.contains_cons, List.contains_cons, h0, h1, Bool.false_or, Bool.false_or]
      rw [e2, ← ih, Lib.indexAny, if_neg hb]
      by_cases hm : Lib.indexAny r [0, 10] = -1
      · simp [hm]
      · rw [if_neg (by simpa using hm)]
        omega
theorem small2 : ∀ (j : Nat) b, (⟨#[0, 10]⟩ : ByteArray).data.toList[j]? = some b → b.toNat < 128 := by
  intro j b h
  have hm : b ∈ ([0, 10] : List UInt8) := List.mem_of_getElem? h
  rcases (by simpa using hm : b = 0 ∨ b = 10) with rfl | rfl <;> decide
theorem iany_any (s : ByteArray) (hs : s.size ≤ 1000000) (w : World) :
    Calls Tryz.prog 135 #[.string s, .string ⟨#[0, 10]⟩] w fun e w' => (∃ n : Int, e = .returned (.int .i64 n) ∧ (0 ≤ n ↔ has (tl s) = true)) ∧ Below w.heap.size w w' := by
  by_cases h8 : s.size ≤ 8
  · exact iany_short s h8 w
  · refine (Tryz.strings_IndexAny_long (zero_of_info zero51).1 s ⟨#[0, 10]⟩ w (by decide) (by omega) (by omega) (by decide) small2).mono ?_
    rintro e w' ⟨rfl, rfl⟩
    exact ⟨⟨_, rfl, indexAny_has _⟩, ((Below.refl _ _).alloc (Nat.le_refl _) _).alloc (by simp) _⟩
theorem contains_any (s : ByteArray) (hs : s.size ≤ 1000000) (w : World) :
    Calls Tryz.prog 125 #[.string s, .string ⟨#[0, 10]⟩] w fun e w' => e = .returned (.bool (has (tl s))) ∧ Below w.heap.size w w' := by
  have q := fun w => iany_any s hs w
  cases hh : has (tl s) with
  | true =>
    simp only [hh, iff_true] at q
    go_enter Tryz.func125, Tryz.ntmps125
    go_wp2_with fail
    refine (q _).mono ?_
    rintro e w1 ⟨⟨n, rfl, hn⟩, hb⟩
    go_wp2
    go_ret
    exact ⟨rfl, hb⟩
  | false =>
    simp only [hh, Bool.false_eq_true, iff_false] at q
    go_enter Tryz.func125, Tryz.ntmps125
    go_wp2_with fail
    refine (q _).mono ?_
    rintro e w1 ⟨⟨n, rfl, hn⟩, hb⟩
    have hd : decide (0 ≤ n) = false := decide_eq_false (by omega)
    go_wp2
    go_ret
    exact ⟨by first | rfl | (rw [← hd]; rfl), hb⟩

theorem vname_any (x : List UInt8) (hx : x.length ≤ 1000000) (w : World) :
    Calls Tryz.prog 106 #[sv x] w fun e w' => e = .returned (.bool (okn x)) ∧ Below w.heap.size w w' := by
  have hsz := mk_size x
  rw [okn_has]
  by_cases h : x.length ≤ 255
  · have q := fun w => contains_any (mk x) (by omega) w
    rw [tl_mk x] at q
    rw [decide_eq_true h, Bool.true_and]
    have k1 : ((mk x).size : Int) ≤ 255 := by omega
    have k2 : (x.length : Int) ≤ 255 := by omega
    generalize has x = b at q
    clear hsz k1
    go_enter Tryz.func106, Tryz.ntmps106
    go_wp2_with fail
    refine (q _).mono ?_
    rintro e w1 ⟨rfl, hb⟩
    go_wp2
    go_ret
    exact ⟨rfl, hb⟩
  · rw [decide_eq_false h, Bool.false_and]
    have k1 : ¬ (x.length : Int) ≤ 255 := by omega
    clear hsz
    go_enter Tryz.func106, Tryz.ntmps106
    go_wp2
    go_ret
    exact ⟨rfl, Below.refl _ _⟩

theorem all_take_next (K : List (List UInt8)) (k : Nat) (h : k < K.length) : (K.take (k + 1)).all okn = ((K.take k).all okn && okn (K.getD k [])) := by
  rw [List.take_succ_eq_append_getElem h, List.all_append, List.getD_eq_getElem?_getD, List.getElem?_eq_getElem h]
  simp
theorem all_no (K : List (List UInt8)) (k : Nat) (h : k < K.length) (hn : okn (K.getD k []) = false) : K.all okn = false := by
  rw [← List.take_append_drop (k + 1) K, List.all_append, all_take_next K k h, hn]
  simp
theorem cut_mem_len (s : ByteArray) (k : Nat) : ((cut (tl s)).getD k []).length ≤ s.size + 1 := by
  by_cases h : k < (cut (tl s)).length
  · have hm : (cut (tl s)).getD k [] ∈ cut (tl s) := by rw [List.getD_eq_getElem?_getD, List.getElem?_eq_getElem h]; exact List.getElem_mem h
    have := tw_mem _ _ hm
    rw [cut_tw, tl_len] at this
    exact this
  · rw [List.getD_eq_getElem?_getD, List.getElem?_eq_none (by omega)]
    exact Nat.zero_le _

theorem valid_long (s : ByteArray) (w : World) (h : 1000 < s.size) (hs : s.size ≤ 1000000) :
    Calls Tryz.prog 86 #[.string s] w fun e w' => e = .returned (.bool (valid (tl s))) ∧ Below w.heap.size w w' := by
  have hv : valid (tl s) = false := by unfold valid; rw [tl_len, decide_eq_false (by omega)]; rfl
  rw [hv]
  have k1 : (1000 : Int) < s.size := by omega
  go_enter Tryz.func86, Tryz.ntmps86
  go_wp2
  go_ret
  exact ⟨rfl, Below.refl _ _⟩

set_option maxRecDepth 100000 in
set_option maxHeartbeats 2000000 in
theorem valid_short (s : ByteArray) (w : World) (h : s.size ≤ 1000) :
    Calls Tryz.prog 86 #[.string s] w fun e w' => e = .returned (.bool (valid (tl s))) ∧ Below w.heap.size w w' := by
  have k1 : ¬ (1000 : Int) < s.size := by omega
  have q0 := clean_any s (by omega)
  by_cases hc : clean (tl s) = tl s
  · have hv : valid (tl s) = (cut (tl s)).all okn := by unfold valid; rw [tl_len, decide_eq_true h, decide_eq_true hc]; rfl
    have HV := hide' hv
    rw [hc, mk_tl] at q0
    clear hv hc
    have HL := hide' (cut_mem_len s)
    have q1 := fun w => names_any s (by omega) w
    have hKl := cut_len (tl s)
    rw [tl_len] at hKl
    go_enter Tryz.func86, Tryz.ntmps86
    go_wp2_with fail
    refine (q0 _).mono ?_
    rintro e w0 ⟨rfl, hB0⟩
    go_wp2_with fail
    refine (q1 _).mono ?_
    rintro e w1 ⟨v1, rfl, hrow1, hb1⟩
    have hB1 := hB0.trans (hb1.mono hB0.size)
    obtain ⟨g, cap, rfl, hc1, hc2, hg, hcell, _⟩ := row_form hrow1 (cut_ne _)
    clear hrow1 hB0 hb1 q0 q1
    generalize cut (tl s) = K at hKl hc1 hcell HV HL
    have HC := hide' hcell
    clear hcell
    have hsz1 := hB1.size
    go_wp2
    go_loopw [17] (fun i wr => ∃ k : Nat, k ≤ K.length ∧ i = .int .i64 k ∧ Below w1.heap.size w1 wr ∧ Hid ((K.take k).all okn = true)) (fun i _ => K.length - (intOf i).toNat)
    case atStart => exact ⟨0, Nat.zero_le _, rfl, Below.refl _ _, rfl⟩
    case round =>
      obtain ⟨k, hk, rfl, hB, HA⟩ := hrel
      by_cases hlt : k < K.length
      · have c1 := (hB.cell (p := ⟨g, k, none⟩) hg).trans (HC.out k hlt)
        have hxl := HL.out k
        have q := fun w => vname_any (K.getD k []) (by omega) w
        cases ho : okn (K.getD k []) with
        | true =>
          have HA1 : Hid ((K.take (k + 1)).all okn = true) := by show _ = _; rw [all_take_next K k hlt, HA.out, ho]; rfl
          simp only [ho] at q
          clear ho HA
          generalize K.getD k [] = x at c1 q
          go_wp2_with (go_at_call 106; refine (q _).mono ?_; rintro e w2 ⟨rfl, hb2⟩)
          exact ⟨⟨k + 1, by omega, by go_num, hB.trans (hb2.mono hB.size), HA1⟩, by simp [intOf]; omega⟩
        | false =>
          have HF := hide' (HV.out.trans (all_no K k hlt ho))
          simp only [ho] at q
          clear ho HA
          generalize K.getD k [] = x at c1 q
          go_wp2_with (go_at_call 106; refine (q _).mono ?_; rintro e w2 ⟨rfl, hb2⟩)
          go_ret
          exact ⟨by rw [HF.out]; rfl, hB1.trans ((hB.trans (hb2.mono hB.size)).mono hsz1)⟩
      · have hke : K.take k = K := List.take_of_length_le (by omega)
        have HF : Hid (valid (tl s) = true) := by show _ = _; rw [HV.out, ← hke]; exact HA.out
        clear hke HA
        go_wp2
        go_ret
        exact ⟨by rw [HF.out]; rfl, hB1.trans (hB.mono hsz1)⟩
  · have hv : valid (tl s) = false := by unfold valid; rw [decide_eq_false hc, Bool.and_false, Bool.false_and]
    rw [hv]
    have hne : mk (clean (tl s)) ≠ s := fun e => hc (by rw [← tl_mk (clean (tl s)), e])
    have hn2 := list_ne _ _ hne
    generalize mk (clean (tl s)) = c at q0 hn2
    clear hv hne hc
    go_enter Tryz.func86, Tryz.ntmps86
    go_wp2_with fail
    refine (q0 _).mono ?_
    rintro e w0 ⟨rfl, hB0⟩
    go_wp2
    go_ret
    exact ⟨rfl, hB0⟩

theorem valid_any (s : ByteArray) (w : World) (hs : s.size ≤ 1000000) :
    Calls Tryz.prog 86 #[.string s] w fun e w' => e = .returned (.bool (valid (tl s))) ∧ Below w.heap.size w w' := by
  by_cases h : s.size ≤ 1000
  · exact valid_short s w h
  · exact valid_long s w (by omega) hs
end Go.Proofs.YtamohpcdchhbbaaGreatDoor
