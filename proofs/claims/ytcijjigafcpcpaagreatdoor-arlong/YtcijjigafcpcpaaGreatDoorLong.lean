/- ArLong answers true at all numbers. -/
import Derived.Test.YtcijjigafcpcpaaGreatDoorAlive
import Derived.Test.YtcijjigafcpcpaaGreatDoorFind
namespace Go.Proofs.YtcijjigafcpcpaaGreatDoor
open Go.RowKit Go.Maps Go.Shelf

def nn (n : Nat) : Bs := List.replicate n 110
def lm (n size b : Nat) : Mv := ⟨nn n, 0, .slice (some ⟨b, 0, none⟩) size size, List.replicate size 0⟩
theorem nn_len (n : Nat) : (nn n).length = n := by simp [nn]
theorem nn_succ (n : Nat) : mk (nn n) ++ { data := #[110] } = mk (nn (n + 1)) := by
  have := cat_mk (nn n) [110]
  rw [show nn n ++ [110] = nn (n + 1) from (List.replicate_succ' ..).symm] at this
  exact this
theorem lm_ok {n size b : Nat} (h1 : 1 ≤ n) (h2 : n ≤ 255) : okM (lm n size b) = true := by
  unfold okM nmb lm
  have e1 : (nn n).isEmpty = false := by cases n with | zero => omega | succ n => rfl
  have e2 : ((nn n).any fun c => c == 47 || c == 0 || c == 10) = false := by
    rw [List.any_eq_false]
    intro c hc
    rw [List.eq_of_mem_replicate hc]
    decide
  simp [e1, e2, nn_len, h2]
theorem lm_len (n size b : Nat) : lenA [lm n size b] = 68 + size + size % 2 + (if 15 < n then 60 + (n + 2 + n % 2) else 0) := by
  unfold lenA
  have e1 : wtD (lm n size b) = 60 + (size + size % 2) := by unfold wtD evn lm; simp
  have e2 : wtT (lm n size b) = if 15 < n then n + 2 else 0 := by unfold wtT lng lm; simp [nn_len]
  simp only [sumM, e1, e2, Nat.add_zero]
  by_cases h : 15 < n
  · rw [if_pos h, if_pos h, if_pos (by omega)]
    unfold evn
    omega
  · rw [if_neg h, if_neg h, if_neg (by omega)]
    omega
theorem lm_find {n size b : Nat} (h1 : 1 ≤ n) {z : Int} (h : FindR (archB [lm n size b]) [47, 47, 32, 32, 32] z) : (z == 8) = decide (15 < n) := by
  have hno : ∀ j, j < 8 → ¬ At (archB [lm n size b]) [47, 47, 32, 32, 32] j := fun j hj hA => by
    have h2 := hA.2
    have e0 : (archB [lm n size b])[j]? = some 47 := by
      have := congrArg (·[0]?) h2
      simpa [List.getElem?_take_of_lt] using this
    unfold archB at e0
    rw [List.append_assoc, List.getElem?_append_left (by show j < 8; exact hj)] at e0
    rcases (by omega : j = 0 ∨ j = 1 ∨ j = 2 ∨ j = 3 ∨ j = 4 ∨ j = 5 ∨ j = 6 ∨ j = 7) with rfl | rfl | rfl | rfl | rfl | rfl | rfl | rfl <;> simp [magicB] at e0
  by_cases hn : 15 < n
  · rw [decide_eq_true hn]
    have hT : 0 < (tbl [lm n size b]).length := by rw [tbl_len]; unfold sumM sumM wtT lng lm; simp [nn_len, hn]
    have h8 : At (archB [lm n size b]) [47, 47, 32, 32, 32] 8 := by
      have e : ∃ r, archB [lm n size b] = magicB ++ ([47, 47, 32, 32, 32] ++ r) := by
        unfold archB tableB headB pad
        rw [if_pos hT]
        exact ⟨_, by simp only [List.append_assoc]; rfl⟩
      obtain ⟨r, e⟩ := e
      unfold At
      rw [e]
      refine ⟨?_, rfl⟩
      simp only [List.length_append]
      show 8 + 5 ≤ 8 + (5 + _)
      omega
    rcases h with ⟨_, h⟩ | ⟨i, rfl, hi, hlt⟩
    · exact absurd h8 (h 8)
    · have : ¬ 8 < i := fun hx => hlt 8 hx h8
      have : ¬ i < 8 := fun hx => hno i hx hi
      obtain rfl : i = 8 := by omega
      rfl
  · rw [decide_eq_false hn]
    have h8 : ¬ At (archB [lm n size b]) [47, 47, 32, 32, 32] 8 := fun hA => by
      have h2 := hA.2
      have e0 : (archB [lm n size b])[8]? = some 47 := by
        have := congrArg (·[0]?) h2
        simpa [List.getElem?_take_of_lt] using this
      have hT : ¬ 0 < (tbl [lm n size b]).length := by rw [tbl_len]; unfold sumM sumM wtT lng lm; simp [nn_len, hn]
      have hN : nameB 0 (nn n) = nn n ++ [47] := by unfold nameB lng; rw [nn_len, decide_eq_false hn]; rfl
      obtain ⟨k, rfl⟩ : ∃ k, n = k + 1 := ⟨n - 1, by omega⟩
      have e : ∃ r, archB [lm (k + 1) size b] = magicB ++ (110 :: r) := by
        unfold archB tableB
        rw [if_neg hT]
        unfold bodyB memB headB pad
        simp only [lm, hN]
        exact ⟨_, by simp only [nn, List.replicate_succ, List.append_assoc, List.nil_append, List.cons_append]; rfl⟩
      obtain ⟨r, e⟩ := e
      rw [e] at e0
      have : (magicB ++ (110 :: r))[8]? = some 110 := rfl
      rw [this] at e0
      cases e0
    refine beq_eq_false_iff_ne.2 fun e => ?_
    subst e
    rcases h with ⟨e, _⟩ | ⟨i, e, hi, _⟩
    · cases e
    · obtain rfl : i = 8 := by omega
      exact h8 hi
theorem made_rds (W : World) (s : Nat) : Rds (W.alloc (.cells (madeCells #[.int .u8 0] s) 5)) (.slice (some ⟨W.heap.size, 0, none⟩) s s) (List.replicate s 0) := by
  refine .inr ⟨⟨W.heap.size, 0, none⟩, s, by simp, fun _ => lt_of_block (alloc_new _ _), fun j u hj => ?_⟩
  rw [add_zero, Lib.cell_of_heap (alloc_new _ _)]
  have hjl : j < s := by
    have := (List.getElem?_eq_some_iff.1 hj).1
    simpa [Lib.byteCells] using this
  unfold Lib.byteCells at hj
  rw [List.getElem?_map, List.getElem?_replicate, if_pos hjl] at hj
  cases hj
  simp [madeCells, hjl, Nat.mod_one]
set_option maxRecDepth 100000 in
set_option maxHeartbeats 4000000 in
theorem long_out (n size : Int) (h : n < 1 ∨ 255 < n ∨ size < 0 ∨ 66000 < size) (w : World) (hE : Env w) (h11 : 2 ≤ w.heap.size) : Calls Tryz.prog 7 #[.int .i64 n, .int .i64 size] w fun r w' => r = .returned (.bool true) ∧ Below w.heap.size w w' := by
  have qa := alive_any w hE h11
  by_cases h1 : n < 1
  · go_enter Tryz.func7, Tryz.ntmps7
    go_wp2_with fail
    refine qa.mono ?_
    rintro r w1 ⟨rfl, hb1⟩
    go_wp2
    go_ret
    exact ⟨rfl, hb1⟩
  by_cases h2 : 255 < n
  · go_enter Tryz.func7, Tryz.ntmps7
    go_wp2_with fail
    refine qa.mono ?_
    rintro r w1 ⟨rfl, hb1⟩
    go_wp2
    go_ret
    exact ⟨rfl, hb1⟩
  by_cases h3 : size < 0
  · go_enter Tryz.func7, Tryz.ntmps7
    go_wp2_with fail
    refine qa.mono ?_
    rintro r w1 ⟨rfl, hb1⟩
    go_wp2
    go_ret
    exact ⟨rfl, hb1⟩
  have h4 : 66000 < size := by omega
  go_enter Tryz.func7, Tryz.ntmps7
  go_wp2_with fail
  refine qa.mono ?_
  rintro r w1 ⟨rfl, hb1⟩
  go_wp2
  go_ret
  exact ⟨rfl, hb1⟩
set_option maxRecDepth 100000 in
set_option maxHeartbeats 4000000 in
theorem long_in (n size : Nat) (h1 : 1 ≤ n) (h2 : n ≤ 255) (h3 : size ≤ 66000) (w : World) (hE : Env w) (h11 : 2 ≤ w.heap.size) : Calls Tryz.prog 7 #[.int .i64 n, .int .i64 size] w fun r w' => r = .returned (.bool true) ∧ Below w.heap.size w w' := by
  have qa := alive_any w hE h11
  have i1 : ¬ (n : Int) < 1 := by omega
  have i2 : ¬ (255 : Int) < n := by omega
  have i3 : ¬ (size : Int) < 0 := by omega
  have i4 : ¬ (66000 : Int) < size := by omega
  go_enter Tryz.func7, Tryz.ntmps7
  go_wp2_with fail
  refine qa.mono ?_
  rintro r w1 ⟨rfl, hb1⟩
  clear qa
  go_wp2
  go_loopw [6, 7] (fun s i wr => ∃ k : Nat, k ≤ n ∧ i = .int .i64 k ∧ s = .string (mk (nn k)) ∧ wr = w1) (fun _ i _ => n - (intOf i).toNat)
  case atStart => exact ⟨0, by omega, rfl, rfl, rfl⟩
  case round =>
    obtain ⟨k, hk, rfl, rfl, rfl⟩ := hrel
    have hkl2 := nn_len k
    have hkz := mk_size (nn k)
    by_cases hkl : k < n
    · have k1 : (k : Int) < n := by omega
      have hc := nn_succ k
      go_wp2
      exact ⟨⟨k + 1, by omega, by simp, rfl, trivial⟩, by simp [intOf]; omega⟩
    · obtain rfl : k = n := by omega
      have k1 : ¬ (k : Int) < k := by omega
      obtain ⟨inf, hi, hz0, hz1, hz2⟩ := info_parts info5
      have hmk0 := run_make (P := Tryz.prog) wr 26 5 inf (.int .u8 0) Tryz.underlying26 hi hz0 .i64 .i64 size size (by omega) (Int.le_refl _) (by rw [hz2]; omega) (by omega)
      rw [Int.toNat_natCast, hz1, Nat.mul_one] at hmk0
      have hmk : (Instr.makeSlice 26 (.int .i64 size) (.int .i64 size)).run Tryz.prog wr = .ok (.slice (some ⟨wr.heap.size, 0, none⟩) size size) (wr.alloc (.cells (madeCells #[.int .u8 0] size) 5)) := hmk0
      clear hmk0 hi hz0 hz1 hz2
      have hrd := made_rds wr size
      have hb2 : Below wr.heap.size wr (wr.alloc (.cells (madeCells #[.int .u8 0] size) 5)) := (Below.refl _ _).alloc (Nat.le_refl _) _
      have hb3 : Below (wr.heap.size + 1) (wr.alloc (.cells (madeCells #[.int .u8 0] size) 5)) ((wr.alloc (.cells (madeCells #[.int .u8 0] size) 5)).alloc (.cells #[.string (mk (nn k)), .int .i64 0, .slice (some ⟨wr.heap.size, 0, none⟩) size size] 37)) := (Below.refl _ _).alloc (by simp) _
      have z3 := alloc_new (wr.alloc (.cells (madeCells #[.int .u8 0] size) 5)) (.cells #[.string (mk (nn k)), .int .i64 0, .slice (some ⟨wr.heap.size, 0, none⟩) size size] 37)
      rw [size_alloc'] at z3
      have hrd3 := hrd.below (by rw [size_alloc']; exact hb3)
      obtain ⟨w3, hw3⟩ : ∃ w3, w3 = (wr.alloc (.cells (madeCells #[.int .u8 0] size) 5)).alloc (.cells #[.string (mk (nn k)), .int .i64 0, .slice (some ⟨wr.heap.size, 0, none⟩) size size] 37) := ⟨_, rfl⟩
      rw [← hw3] at hb3 z3 hrd3
      have hs2 : wr.heap.size ≤ wr.heap.size + 1 := by omega
      have hB2 := hb1.trans (hb2.mono hb1.size)
      have hB3 := hB2.trans (hb3.mono (Nat.le_trans hb1.size hs2))
      have hM : Mems w3 (.slice (some ⟨wr.heap.size + 1, 0, none⟩) 1 1) [lm k size wr.heap.size] := by
        refine .inr ⟨wr.heap.size + 1, 0, 1, rfl, Nat.le_refl _, ⟨lt_of_block z3, fun i m hi => ?_, fun i m hi => ?_, fun i m hi => ?_⟩, fun m hm => ?_⟩
        · rcases i with _ | i
          · cases hi; rw [Lib.cell_of_heap z3]; rfl
          · simp at hi
        · rcases i with _ | i
          · cases hi; rw [Lib.cell_of_heap z3]; rfl
          · simp at hi
        · rcases i with _ | i
          · cases hi; rw [Lib.cell_of_heap z3]; rfl
          · simp at hi
        · rw [List.mem_singleton.1 hm]
          exact hrd3
      have hlA := lm_len k size wr.heap.size
      have hLb : lenA [lm k size wr.heap.size] ≤ 100000 := by rw [hlA]; split <;> omega
      have q4 := Write_any _ [lm k size wr.heap.size] w3 hM ⟨by simp, by omega, fun m hm => by rw [List.mem_singleton.1 hm]; show (nn k).length ≤ _; rw [nn_len]; omega⟩ (hE.keep (hB3.mono h11) (by omega)) (Nat.le_trans h11 hB3.size)
      have hok := lm_ok (size := size) (b := wr.heap.size) h1 h2
      obtain ⟨A, hA⟩ : ∃ A, A = lenA [lm k size wr.heap.size] := ⟨_, rfl⟩
      have hws : 65536 < A → wrongR [lm k size wr.heap.size] = 2 := fun h => wrong_long (.inr (by omega))
      have hwo : A ≤ 65536 → wrongR [lm k size wr.heap.size] = 0 := fun h => wrong_ok (by simp) (by omega) (by simp [hok])
      have hal : A ≤ 65536 → (archB [lm k size wr.heap.size]).length = A := fun h => by rw [hA]; exact arch_length (by omega) (by simp [hok])
      rw [← hA] at hlA
      have hfd := fun z => lm_find (n := k) (size := size) (b := wr.heap.size) h1 (z := z)
      have r1 : ((size : Int).tmod 2) = (size % 2 : Nat) := by rw [Int.tmod_eq_emod_of_nonneg (by omega)]; omega
      have r2 : ((k : Int).tmod 2) = (k % 2 : Nat) := by rw [Int.tmod_eq_emod_of_nonneg (by omega)]; omega
      have HX := hide' (And.intro hws (And.intro hwo (And.intro hal (And.intro hfd hlA))))
      clear hws hwo hal hfd hlA hLb hok hA hM hrd hrd3 z3
      go_wp2_with fail
      rw [← hw3]
      clear hw3
      refine q4.mono ?_
      rintro r w4 hq4
      clear q4
      obtain ⟨hb4, hq4⟩ := hq4
      have hB4 := hB3.trans (hb4.mono hB3.size)
      by_cases hbig : A ≤ 65536
      · rcases hq4 with ⟨_, v4, rfl, hD4, _⟩ | ⟨hz, _⟩
        · have hst := rds_str hD4.rds
          have hl4 := HX.out.2.2.1 hbig
          obtain ⟨a4, c4, hv4⟩ := hD4.len
          rw [hl4] at hv4
          subst hv4
          have qf := find_any (archB [lm k size wr.heap.size]) [47, 47, 32, 32, 32] (by omega) (by decide) w4
          have hlA := HX.out.2.2.2.2
          have hfd := HX.out.2.2.2.1
          clear hD4 hl4 HX
          generalize archB [lm k size wr.heap.size] = S at *
          by_cases h15 : 15 < k
          · have j1 : (15 : Int) < k := by omega
            rw [if_pos h15] at hlA
            have j3 : ¬ (65536 : Int) < 68 + size + (size : Int) % 2 + 60 + k + 2 + (k : Int) % 2 := by omega
            have e1 : (68 : Int) + size + (size : Int) % 2 + (60 + (k + 2 + (k : Int) % 2)) = 68 + size + (size : Int) % 2 + 60 + k + 2 + (k : Int) % 2 := by omega
            subst hlA
            have hf2 : ∀ z, FindR S [47, 47, 32, 32, 32] z → z = 8 := fun z h => by have := hfd z h; rw [decide_eq_true h15] at this; simpa using this
            have HF := hide' hf2
            clear hfd hf2
            go_wp2_with fail
            refine (num_any _ _).mono ?_
            rintro r w5 ⟨rfl, rfl⟩
            go_wp2_with fail
            refine qf.mono ?_
            rintro r w6 ⟨⟨z, rfl, hz⟩, rfl⟩
            obtain rfl := HF.out z hz
            go_wp2
            go_ret
            exact ⟨rfl, hB4⟩
          · have j1 : ¬ (15 : Int) < k := by omega
            rw [if_neg h15] at hlA
            have j3 : ¬ (65536 : Int) < 68 + size + (size : Int) % 2 := by omega
            rw [Nat.add_zero] at hlA
            subst hlA
            have hf2 : ∀ z, FindR S [47, 47, 32, 32, 32] z → ¬ z = 8 := fun z h => by have := hfd z h; rw [decide_eq_false h15] at this; simpa using this
            have HF := hide' hf2
            clear hfd hf2
            go_wp2_with fail
            refine (num_any _ _).mono ?_
            rintro r w5 ⟨rfl, rfl⟩
            go_wp2_with fail
            refine qf.mono ?_
            rintro r w6 ⟨⟨z, rfl, hz⟩, rfl⟩
            have hz8 := HF.out z hz
            have hz9 : (z == 8) = false := beq_eq_false_iff_ne.2 hz8
            go_wp2
            go_ret
            refine ⟨?_, hB4⟩
            show Ending.returned (.bool (!decide ((15 : Int) < k))) = _
            rw [decide_eq_false (by omega)]
            rfl
        · exact absurd (HX.out.2.1 hbig) hz
      · rcases hq4 with ⟨hz, _⟩ | ⟨_, rfl⟩
        · rw [HX.out.1 (by omega)] at hz; cases hz
        · rw [HX.out.1 (by omega)]
          have hlA := HX.out.2.2.2.2
          clear HX
          by_cases h15 : 15 < k
          · have j1 : (15 : Int) < k := by omega
            rw [if_pos h15] at hlA
            have j2 : (65536 : Int) < 68 + size + (size % 2 : Nat) + 60 + k + 2 + (k % 2 : Nat) := by omega
            go_wp2_with (go_at_call 14; refine (num_any _ _).mono ?_; rintro r w5 ⟨rfl, rfl⟩)
            go_ret
            exact ⟨rfl, hB4⟩
          · have j1 : ¬ (15 : Int) < k := by omega
            rw [if_neg h15] at hlA
            have j2 : (65536 : Int) < 68 + size + (size % 2 : Nat) := by omega
            go_wp2_with (go_at_call 14; refine (num_any _ _).mono ?_; rintro r w5 ⟨rfl, rfl⟩)
            go_ret
            exact ⟨rfl, hB4⟩
/-- ArLong -/
theorem arLong_any (n size : Int) (w : World) (hE : Env w) (h11 : 2 ≤ w.heap.size) : Calls Tryz.prog 7 #[.int .i64 n, .int .i64 size] w fun r w' => r = .returned (.bool true) ∧ Below w.heap.size w w' := by
  by_cases h : n < 1 ∨ 255 < n ∨ size < 0 ∨ 66000 < size
  · exact long_out n size h w hE h11
  · have := long_in n.toNat size.toNat (by omega) (by omega) (by omega) w hE h11
    rw [Int.toNat_of_nonneg (by omega), Int.toNat_of_nonneg (by omega)] at this
    exact this
end Go.Proofs.YtcijjigafcpcpaaGreatDoor
