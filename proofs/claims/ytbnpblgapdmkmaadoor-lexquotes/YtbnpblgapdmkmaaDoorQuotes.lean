/- LexQuotes answers true at every text. -/
import Derived.Test.YtbnpblgapdmkmaaDoorAlive
namespace Go.Proofs.YtbnpblgapdmkmaaDoor
open Go.RowKit Go.Shelf

theorem tl_app (a b : ByteArray) : tl (a ++ b) = tl a ++ tl b := by simp [tl, ByteArray.data_append]
theorem q_text (q : UInt8) (s : ByteArray) : (⟨#[120, 32, q]⟩ : ByteArray) ++ s ++ ⟨#[q, 32, 121]⟩ = mk (qT q (tl s)) := tl_inj _ _ (by rw [tl_app, tl_app, tl_mk]; simp [qT]; rfl)
theorem q_piece (q : UInt8) (s : ByteArray) : (⟨#[q]⟩ : ByteArray) ++ s ++ ⟨#[q]⟩ = mk (qP q (tl s)) := tl_inj _ _ (by rw [tl_app, tl_app, tl_mk]; simp [qP]; rfl)
theorem c_text (s : ByteArray) : (⟨#[120, 32, 39, 97, 39, 32, 35]⟩ : ByteArray) ++ s = mk (cT (tl s)) := tl_inj _ _ (by rw [tl_app, tl_mk]; rfl)
theorem lex_runs (l : Bs) (w : World) (hG : Glob w) (tk : List (Nat × Bs)) (hs : l.length ≤ 65536) (hn : ∀ c ∈ l, c ≠ 92) (hR : Runs l .bw ⟨0, 0, [], []⟩ (.toks tk)) : Calls Tryd.prog 8 #[.string (mk l)] w (LexR w (.toks tk)) := by
  obtain ⟨k, hk⟩ := hR
  exact lex_toks _ w k tk (by rw [mk_size]; exact hs) hG (by rw [tl_mk, joined_no l hn]; exact hk)
theorem qT_mem (q : UInt8) (hq : q = 39 ∨ q = 34) (s : Bs) (h : ∀ c ∈ s, nq c) : ∀ c ∈ qT q s, c ≠ 92 := by
  intro c hc
  simp only [qT, List.mem_cons, List.mem_append] at hc
  rcases hc with rfl | rfl | rfl | hc | rfl | rfl | rfl | hc
  · decide
  · decide
  · rcases hq with rfl | rfl <;> decide
  · exact (h c hc).2.2.1
  · rcases hq with rfl | rfl <;> decide
  · decide
  · decide
  · cases hc
theorem cT_mem (s : Bs) (h : ∀ c ∈ s, nq c) : ∀ c ∈ cT s, c ≠ 92 := by
  intro c hc
  simp only [cT, List.mem_cons] at hc
  rcases hc with rfl | rfl | rfl | rfl | rfl | rfl | rfl | hc
  · decide
  · decide
  · decide
  · decide
  · decide
  · decide
  · decide
  · exact (h c hc).2.2.1
theorem quotes_long (s : ByteArray) (w : World) (hG : Glob w) (h : 2000 < s.size) : Calls Tryd.prog 5 #[.string s] w fun e w' => e = .returned (.bool true) ∧ Below w.heap.size w w' := by
  have qa := alive_any w hG
  have hd : decide ((2000 : Int) < (s.size : Int)) = true := by simp; omega
  clear hG
  go_enter Tryd.func5, Tryd.ntmps5
  go_wp2_with fail
  refine qa.mono ?_
  rintro e w1 ⟨rfl, hb1⟩
  have HB := hide' hb1
  clear hb1
  go_wp2_with fail
  go_ret
  exact ⟨rfl, HB.out⟩
set_option maxHeartbeats 1000000 in
theorem quotes_short (s : ByteArray) (w : World) (hG : Glob w) (h : s.size ≤ 2000) : Calls Tryd.prog 5 #[.string s] w fun e w' => e = .returned (.bool true) ∧ Below w.heap.size w w' := by
  have qa := alive_any w hG
  have qn := fun n w => num_any n w
  have hd : decide ((2000 : Int) < (s.size : Int)) = false := by simp; omega
  have HG := hide' hG
  clear hG
  go_enter Tryd.func5, Tryd.ntmps5
  go_wp2_with fail
  refine qa.mono ?_
  rintro e w1 ⟨rfl, hb1⟩
  have HB := hide' hb1
  clear hb1 qa
  go_wp2_with fail
  go_loopw [4] (fun i wr => ∃ k : Nat, k ≤ s.size ∧ i = .int .i64 k ∧ Hid (∀ j (hj : j < s.size), j < k → nq s[j]) ∧ wr = w1) (fun i _ => s.size - (intOf i).toNat)
  case atStart => exact ⟨0, by omega, rfl, hide' fun j _ hj => absurd hj (Nat.not_lt_zero _), rfl⟩
  case round =>
    obtain ⟨k, hk, rfl, hN, rfl⟩ := hrel
    by_cases hks : k < s.size
    · have hl : ((k : Int) < (s.size : Int)) := by omega
      by_cases h39 : s[k] = 39
      · have y39 : (s[k].toNat : Int) = 39 := by rw [h39]; rfl
        clear h39
        go_wp2_with fail
        go_ret
        exact ⟨rfl, HB.out⟩
      by_cases h34 : s[k] = 34
      · have y34 : (s[k].toNat : Int) = 34 := by rw [h34]; rfl
        have n39 : ¬ (s[k].toNat : Int) = 39 := fun e => h39 (UInt8.toNat_inj.1 (by simpa using Int.ofNat_inj.1 e))
        clear h39 h34
        go_wp2_with fail
        go_ret
        exact ⟨rfl, HB.out⟩
      by_cases h92 : s[k] = 92
      · have y92 : (s[k].toNat : Int) = 92 := by rw [h92]; rfl
        have n39 : ¬ (s[k].toNat : Int) = 39 := fun e => h39 (UInt8.toNat_inj.1 (by simpa using Int.ofNat_inj.1 e))
        have n34 : ¬ (s[k].toNat : Int) = 34 := fun e => h34 (UInt8.toNat_inj.1 (by simpa using Int.ofNat_inj.1 e))
        clear h39 h34 h92
        go_wp2_with fail
        go_ret
        exact ⟨rfl, HB.out⟩
      by_cases h36 : s[k] = 36
      · have y36 : (s[k].toNat : Int) = 36 := by rw [h36]; rfl
        have n39 : ¬ (s[k].toNat : Int) = 39 := fun e => h39 (UInt8.toNat_inj.1 (by simpa using Int.ofNat_inj.1 e))
        have n34 : ¬ (s[k].toNat : Int) = 34 := fun e => h34 (UInt8.toNat_inj.1 (by simpa using Int.ofNat_inj.1 e))
        have n92 : ¬ (s[k].toNat : Int) = 92 := fun e => h92 (UInt8.toNat_inj.1 (by simpa using Int.ofNat_inj.1 e))
        clear h39 h34 h92 h36
        go_wp2_with fail
        go_ret
        exact ⟨rfl, HB.out⟩
      by_cases h96 : s[k] = 96
      · have y96 : (s[k].toNat : Int) = 96 := by rw [h96]; rfl
        have n39 : ¬ (s[k].toNat : Int) = 39 := fun e => h39 (UInt8.toNat_inj.1 (by simpa using Int.ofNat_inj.1 e))
        have n34 : ¬ (s[k].toNat : Int) = 34 := fun e => h34 (UInt8.toNat_inj.1 (by simpa using Int.ofNat_inj.1 e))
        have n92 : ¬ (s[k].toNat : Int) = 92 := fun e => h92 (UInt8.toNat_inj.1 (by simpa using Int.ofNat_inj.1 e))
        have n36 : ¬ (s[k].toNat : Int) = 36 := fun e => h36 (UInt8.toNat_inj.1 (by simpa using Int.ofNat_inj.1 e))
        clear h39 h34 h92 h36 h96
        go_wp2_with fail
        go_ret
        exact ⟨rfl, HB.out⟩
      have n39 : ¬ (s[k].toNat : Int) = 39 := fun e => h39 (UInt8.toNat_inj.1 (by simpa using Int.ofNat_inj.1 e))
      have n34 : ¬ (s[k].toNat : Int) = 34 := fun e => h34 (UInt8.toNat_inj.1 (by simpa using Int.ofNat_inj.1 e))
      have n92 : ¬ (s[k].toNat : Int) = 92 := fun e => h92 (UInt8.toNat_inj.1 (by simpa using Int.ofNat_inj.1 e))
      have n36 : ¬ (s[k].toNat : Int) = 36 := fun e => h36 (UInt8.toNat_inj.1 (by simpa using Int.ofNat_inj.1 e))
      have n96 : ¬ (s[k].toNat : Int) = 96 := fun e => h96 (UInt8.toNat_inj.1 (by simpa using Int.ofNat_inj.1 e))
      have b39 : ((s[k].toNat : Int) == 39) = false := beq_no s[k] 39 39 rfl h39
      have b34 : ((s[k].toNat : Int) == 34) = false := beq_no s[k] 34 34 rfl h34
      have b92 : ((s[k].toNat : Int) == 92) = false := beq_no s[k] 92 92 rfl h92
      have b36 : ((s[k].toNat : Int) == 36) = false := beq_no s[k] 36 36 rfl h36
      have b96 : ((s[k].toNat : Int) == 96) = false := beq_no s[k] 96 96 rfl h96
      have HN : nq s[k] := ⟨h39, h34, h92, h36, h96⟩
      have HK := hide' HN
      clear h39 h34 h92 h36 h96 HN
      go_wp2_with fail
      refine ⟨⟨k + 1, by omega, by go_num, hide' fun j hj hjk => ?_, trivial⟩, by simp [intOf]; omega⟩
      by_cases hjk' : j = k
      · subst hjk'; exact HK.out
      · exact hN.out j hj (by omega)
    · have hke : k = s.size := by omega
      subst hke
      have hall : ∀ c ∈ tl s, nq c := by
        intro c hc
        obtain ⟨j, hj, rfl⟩ := List.getElem_of_mem hc
        rw [tl_len] at hj
        have := hN.out j hj hj
        rw [← getD_at s j hj, List.getD_eq_getElem?_getD, List.getElem?_eq_getElem (by rw [tl_len]; exact hj)] at this
        exact this
      have hsl : (tl s).length = s.size := tl_len s
      have t1 := q_text 39 s
      have t2 := q_text 34 s
      have t3 := c_text s
      have u1 := q_piece 39 s
      have u2 := q_piece 34 s
      have q1 := fun w hG => lex_runs (qT 39 (tl s)) w hG _ (by rw [qT_len]; omega) (qT_mem 39 (.inl rfl) _ hall) (quote_single (tl s) hall)
      have q2 := fun w hG => lex_runs (qT 34 (tl s)) w hG _ (by rw [qT_len]; omega) (qT_mem 34 (.inr rfl) _ hall) (quote_double (tl s) hall)
      obtain ⟨l', hr3, hl3⟩ := quote_comment (tl s) hall (by omega)
      have q3 := fun w hG => lex_runs (cT (tl s)) w hG _ (by simp [cT]; omega) (cT_mem _ hall) hr3
      clear hall hN hsl hr3 hk hks
      have hG1 := HG.out.below HB.out
      go_wp2_with fail
      refine (q1 _ hG1).mono ?_
      rintro e w2 ⟨hb2, tv, rfl, hown, hle⟩
      have hG2 := hG1.below hb2
      obtain ⟨g1, c1, rfl, hcap1, hcm1, hgl1, hc⟩ := own_cells hown (Nat.succ_pos _)
      dsimp only [List.length_cons, List.length_nil] at hcap1 ⊢
      have k1 := hc 3 (.string (mk (qP 39 (tl s)))) rfl
      have HB2 := hide' (HB.out.trans (hb2.mono HB.out.size))
      clear hb2 hown hle hc q1 t1
      go_wp2_with fail
      refine (q2 _ hG2).mono ?_
      rintro e w3 ⟨hb3, tv, rfl, hown, hle⟩
      have hG3 := hG2.below hb3
      obtain ⟨g2, c2, rfl, hcap2, hcm2, hgl2, hc⟩ := own_cells hown (Nat.succ_pos _)
      dsimp only [List.length_cons, List.length_nil] at hcap2 ⊢
      have k1 := (hb3.cell (p := ⟨g1, 3, none⟩) hgl1).trans k1
      have k2 := hc 3 (.string (mk (qP 34 (tl s)))) rfl
      have hgl1 : g1 < w3.heap.size := Nat.lt_of_lt_of_le hgl1 hb3.size
      have HB3 := hide' (HB2.out.trans (hb3.mono HB2.out.size))
      clear hb3 hown hle hc q2 t2 hG2
      go_wp2_with fail
      refine (q3 _ hG3).mono ?_
      rintro e w4 ⟨hb4, tv, rfl, hown, hle⟩
      obtain ⟨g3, c3, rfl, hcap3, hcm3, hgl3, hc⟩ := own_cells hown (by simp)
      have k1 := (hb4.cell (p := ⟨g1, 3, none⟩) hgl1).trans k1
      have k2 := (hb4.cell (p := ⟨g2, 3, none⟩) hgl2).trans k2
      have k3 := hc 3 (.string (mk [39, 97, 39])) rfl
      have hln : ([(1, [120]), (1, [39, 97, 39])] ++ l').length = l'.length + 2 := by simp
      rw [hln] at hcap3 hle ⊢
      obtain ⟨L, hL⟩ : ∃ L, L = l'.length + 2 := ⟨_, rfl⟩
      rw [← hL] at hcap3 hle ⊢
      have hL3 : decide ((L : Int) < 3) = false := by simp; omega
      have hL5 : ¬ (L : Int) ≤ 1 := by omega
      have hL6 : 1 < L := by omega
      have HB4 := hide' (HB3.out.trans (hb4.mono HB3.out.size))
      clear hb4 hown hc q3 t3 hG3 hG1 hln hL hl3
      go_wp2_with (go_at_call 10; refine (qn _ _).mono ?_; rintro e w' ⟨rfl, rfl⟩)
      go_ret
      exact ⟨rfl, HB4.out⟩
theorem quotes_any (s : ByteArray) (w : World) (hG : Glob w) : Calls Tryd.prog 5 #[.string s] w fun e w' => e = .returned (.bool true) ∧ Below w.heap.size w w' := by
  by_cases h : 2000 < s.size
  · exact quotes_long s w hG h
  · exact quotes_short s w hG (by omega)
end Go.Proofs.YtbnpblgapdmkmaaDoor
