/- The law VfsMany, walked. -/
import Derived.Test.YtamohpcdchhbbaaDoorAlive
import Derived.Test.YtamohpcdchhbbaaDoorDec
namespace Go.Proofs.YtamohpcdchhbbaaDoor
open Go.RowKit Go.Maps

theorem many_new : newR [] 0 100000 = .inr [] := by
  unfold newR
  have h1 : lenR [] = .ok := rfl
  rw [h1]
  simp only
  rw [if_pos (by decide)]
  rfl
theorem many_start (c : UInt8) : ManyAt c 0 [] := ⟨fun e he => (by cases he), fun e he => (by cases he), rfl⟩
theorem name_app (c : UInt8) (u : Nat) : (⟨#[c]⟩ : ByteArray) ++ (⟨(Lib.decDigits u).toArray⟩ : ByteArray) = mk (nm c u) := by
  rw [ByteArray.mk_append_mk]
  simp [nm]
set_option maxRecDepth 100000 in
set_option maxHeartbeats 4000000 in
theorem many_out (B : Nat) (E : Addr) (n : Int) (dirs : Bool) (w : World) (hG : Glo B w E) (hB : B ≤ w.heap.size) (h : n < 990 ∨ 1010 < n) : Calls Tryd.prog 3 #[.int .i64 n, .bool dirs] w fun r w' => r = .returned (.bool true) ∧ Below w.heap.size w w' := by
  have q0 := alive_any B E w hG hB
  by_cases h1 : n < 990
  · go_enter Tryd.func3, Tryd.ntmps3
    go_wp2_with fail
    refine q0.mono ?_
    rintro r w1 ⟨rfl, hb1⟩
    go_wp2
    go_ret
    exact ⟨rfl, hb1⟩
  have h2 : 1010 < n := by omega
  go_enter Tryd.func3, Tryd.ntmps3
  go_wp2_with fail
  refine q0.mono ?_
  rintro r w1 ⟨rfl, hb1⟩
  go_wp2
  go_ret
  exact ⟨rfl, hb1⟩
/-- behind a call, in a round -/
theorem num_next {S : Nat → Prop} {A N : Nat} {w w1 w' : World} {r : Ending} {o : Out} (hb : Below N w w1) (hN : N ≤ w.heap.size) (hS : ∀ i, S i → N ≤ i) (h : NumAt S A 100000 w1 r w' o) :
    r = .returned (.int .i64 (o.1 : Nat)) ∧ ∃ S', IsFs w' S' A o.2.1 o.2.2 100000 ∧ (∀ i, S' i → N ≤ i) ∧ Below N w w' := by
  obtain ⟨h1, S', h2, h3, h4⟩ := h
  refine ⟨h1, S', h2, fun i hi => ?_, hb.trans (h3.below (Nat.le_trans hN hb.size) hS)⟩
  rcases h4 i hi with h5 | h5
  · exact hS i h5
  · exact Nat.le_trans (Nat.le_trans hN hb.size) h5
set_option maxRecDepth 100000 in
set_option maxHeartbeats 8000000 in
theorem many_go (B : Nat) (E : Addr) (n : Nat) (dirs : Bool) (w : World) (hG : Glo B w E) (hB : B ≤ w.heap.size) (h1 : ¬ (n : Int) < 990) (h2 : ¬ 1010 < (n : Int)) : Calls Tryd.prog 3 #[.int .i64 n, .bool dirs] w fun r w' => r = .returned (.bool true) ∧ Below w.heap.size w w' := by
  have q0 := alive_any B E w hG hB
  obtain ⟨c, hc, hL⟩ : ∃ c : UInt8, (c = if dirs then 100 else 102) ∧ Letter c := ⟨_, rfl, by cases dirs <;> exact ⟨by decide, by decide, by decide, by decide⟩⟩
  have hstep : ∀ (k : Nat) (T : Tr) (clk : Int) (d : Bool), ManyAt c k T → k < 100000 → ∃ o, putR T clk 100000 (nm c k) ⟨d, 0, []⟩ = o ∧ ManyAt c (k + 1) o.2.1 ∧ o.2.2 ≤ clk + 1 ∧ (k < 1000 → o.1 = 0) ∧ (¬ k < 1000 → o.1 = 15) := by
    intro k T clk d hm hk
    obtain ⟨p1, p2⟩ := many_put hm clk ⟨d, 0, []⟩ rfl hk
    by_cases hk2 : k < 1000
    · obtain ⟨T', e1, e2⟩ := p1 hk2
      exact ⟨_, e1, e2, Int.le_refl _, fun _ => rfl, fun h => absurd hk2 h⟩
    · obtain ⟨e1, e2⟩ := p2 hk2
      exact ⟨_, e1, e2, by simp only; omega, fun h => absurd h hk2, fun _ => rfl⟩
  go_enter Tryd.func3, Tryd.ntmps3
  go_wp2_with fail
  refine q0.mono ?_
  rintro r w1 ⟨rfl, hb1⟩
  have q1 := New_any B E (.slice none 0 0) [] 0 100000 w1 (.inl ⟨⟨_, _, rfl⟩, rfl⟩) (hG.keep (hb1.mono hB)) (Nat.le_trans hB hb1.size) (fun n hn => by cases hn)
  rw [many_new] at q1
  go_wp2_with fail
  refine q1.mono ?_
  rintro r w2 ⟨hb2, A, rfl, hfs⟩
  have hB2 : Below w.heap.size w w2 := hb1.trans (hb2.mono hb1.size)
  have hs1 := hb1.size
  clear q0 q1
  go_wp2
  go_loopw [8, 9] (fun i _ wr => ∃ (k : Nat) (T : Tr) (clk : Int) (S : Nat → Prop), k ≤ n ∧ i = .int .i64 k ∧ IsFs wr S A T clk 100000 ∧ (∀ i, S i → w.heap.size ≤ i) ∧ ManyAt c k T ∧ clk ≤ k ∧ Below w.heap.size w wr) (fun i _ _ => n - (intOf i).toNat)
  case atStart => exact ⟨0, [], 0, _, Nat.zero_le _, rfl, hfs, fun i hi => Nat.le_trans hs1 hi, many_start c, Int.le_refl _, hB2⟩
  case round =>
    obtain ⟨k, T, clk, S, hk, rfl, hF, hS, hM, hclk, hBr⟩ := hrel
    by_cases hkn : k < n
    · have k1 : (k : Int) < n := by omega
      have hkk : k < 100000 := by omega
      have qd := fun w => rdecimal_nat k k (Nat.le_refl _) (by omega) w
      have hnl := nm_len c k hkk
      have hGr := hG.keep (hBr.mono hB)
      have hBs := Nat.le_trans hB hBr.size
      obtain ⟨o, ho, hM', hc', ho1, ho2⟩ := hstep k T clk dirs hM hkk
      have happ := name_app c k
      cases dirs with
      | true =>
        subst hc
        simp only [if_true] at *
        have q := Mkdir_any B A E T clk 100000 (mk (nm 100 k)) S wr hF hGr hBs (fun i hi => Nat.le_trans hB (hS i hi)) (by omega) (by rw [mk_size]; omega)
        rw [tl_mk, nm_clean hL, many_mkdir hL hM hkk, ho] at q
        go_wp2_with fail
        refine (qd _).mono ?_
        rintro r w3 ⟨rfl, rfl⟩
        have hz := dec_size k (by omega)
        generalize (⟨(Lib.decDigits k).toArray⟩ : ByteArray) = ds at happ hz
        clear qd
        go_wp2_with fail
        refine q.mono ?_
        rintro r w4 hq
        obtain ⟨rfl, S', hF4, hS4, hB4⟩ := num_next hBr (Nat.le_refl _) hS hq
        clear q hq happ
        obtain ⟨en, T', clk'⟩ := o
        simp only at hM' hc' ho1 ho2 hF4
        by_cases hk2 : k < 1000
        · have k3 : (k : Int) < 1000 := by omega
          obtain rfl := ho1 hk2
          go_wp2_with (go_at_call 9; refine (num_any _ _).mono ?_; rintro r w5 ⟨rfl, rfl⟩)
          exact ⟨⟨k + 1, T', clk', S', by omega, by simp, hF4, hS4, hM', by omega, hB4⟩, by simp [intOf]; omega⟩
        · have k3 : ¬ (k : Int) < 1000 := by omega
          obtain rfl := ho2 hk2
          go_wp2_with (go_at_call 9; refine (num_any _ _).mono ?_; rintro r w5 ⟨rfl, rfl⟩)
          exact ⟨⟨k + 1, T', clk', S', by omega, by simp, hF4, hS4, hM', by omega, hB4⟩, by simp [intOf]; omega⟩
      | false =>
        subst hc
        simp only [Bool.false_eq_true, if_false] at *
        have q := Write_any B A E T clk 100000 (mk (nm 102 k)) [] (.slice none 0 0) false S wr hF hGr hBs (fun i hi => Nat.le_trans hB (hS i hi)) (by omega) (by rw [mk_size]; omega) (.inl ⟨rfl, rfl⟩) (by decide)
        rw [tl_mk, nm_clean hL, many_write hL hM hkk, ho] at q
        go_wp2_with fail
        refine (qd _).mono ?_
        rintro r w3 ⟨rfl, rfl⟩
        have hz := dec_size k (by omega)
        generalize (⟨(Lib.decDigits k).toArray⟩ : ByteArray) = ds at happ hz
        clear qd
        go_wp2_with fail
        refine q.mono ?_
        rintro r w4 hq
        obtain ⟨rfl, S', hF4, hS4, hB4⟩ := num_next hBr (Nat.le_refl _) hS hq
        clear q hq happ
        obtain ⟨en, T', clk'⟩ := o
        simp only at hM' hc' ho1 ho2 hF4
        by_cases hk2 : k < 1000
        · have k3 : (k : Int) < 1000 := by omega
          obtain rfl := ho1 hk2
          go_wp2_with (go_at_call 9; refine (num_any _ _).mono ?_; rintro r w5 ⟨rfl, rfl⟩)
          exact ⟨⟨k + 1, T', clk', S', by omega, by simp, hF4, hS4, hM', by omega, hB4⟩, by simp [intOf]; omega⟩
        · have k3 : ¬ (k : Int) < 1000 := by omega
          obtain rfl := ho2 hk2
          go_wp2_with (go_at_call 9; refine (num_any _ _).mono ?_; rintro r w5 ⟨rfl, rfl⟩)
          exact ⟨⟨k + 1, T', clk', S', by omega, by simp, hF4, hS4, hM', by omega, hB4⟩, by simp [intOf]; omega⟩
    · obtain rfl : k = n := by omega
      have k1 : ¬ (k : Int) < k := by omega
      go_wp2
      go_ret
      exact ⟨rfl, hBr⟩
theorem many_any (B : Nat) (E : Addr) (n : Int) (dirs : Bool) (w : World) (hG : Glo B w E) (hB : B ≤ w.heap.size) : Calls Tryd.prog 3 #[.int .i64 n, .bool dirs] w fun r w' => r = .returned (.bool true) ∧ Below w.heap.size w w' := by
  by_cases h : n < 990 ∨ 1010 < n
  · exact many_out B E n dirs w hG hB h
  · obtain ⟨m, rfl⟩ : ∃ m : Nat, n = (m : Int) := ⟨n.toNat, by omega⟩
    exact many_go B E m dirs w hG hB (by omega) (by omega)
end Go.Proofs.YtamohpcdchhbbaaDoor
