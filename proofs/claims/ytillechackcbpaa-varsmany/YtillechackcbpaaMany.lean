/- The law VarsMany: it answers true at all inputs. -/
import Derived.Test.YtillechackcbpaaList
import Derived.Laws.BytesString
import Derived.Laws.IdiomStrings
namespace Go.Proofs.Ytillechackcbpaa
open Go.RowKit Go.Maps

/-- the name of the i-th variable -/
def mkey (i : Nat) : Bs := [UInt8.ofNat (i / 100), UInt8.ofNat (i % 100)]
def mvar (i : Nat) : Vr := ⟨mkey i, [120], 1, 3, 0⟩
def LK (k : Nat) : Vs := (List.range k).map fun i => (mkey i, mvar i)
theorem mkey_before {i j : Nat} (h : i < j) (hj : j < 2000) : bytesBefore (mkey i) (mkey j) = true := by
  have a1 : (UInt8.ofNat (i / 100)).toNat = i / 100 := by rw [UInt8.toNat_ofNat']; omega
  have a2 : (UInt8.ofNat (j / 100)).toNat = j / 100 := by rw [UInt8.toNat_ofNat']; omega
  have b1 : (UInt8.ofNat (i % 100)).toNat = i % 100 := by rw [UInt8.toNat_ofNat']; omega
  have b2 : (UInt8.ofNat (j % 100)).toNat = j % 100 := by rw [UInt8.toNat_ofNat']; omega
  simp only [mkey, bytesBefore, Bool.or_eq_true, Bool.and_eq_true, decide_eq_true_eq, beq_iff_eq, UInt8.lt_iff_toNat_lt, a1, a2, b1, b2, ← UInt8.toNat_inj]
  by_cases hc : i / 100 < j / 100
  · exact .inl hc
  · exact .inr ⟨by omega, .inl (by omega)⟩
theorem LK_len (k : Nat) : (LK k).length = k := by simp [LK]
theorem LK_succ (k : Nat) : LK (k + 1) = LK k ++ [(mkey k, mvar k)] := by simp [LK, List.range_succ]
theorem ins_last {α : Type} (x : Bs × α) : ∀ L : List (Bs × α), (∀ e ∈ L, bytesBefore x.1 e.1 = false) → ins x L = L ++ [x]
  | [], _ => rfl
  | y :: r, h => by
    unfold ins
    rw [if_neg (by rw [h y List.mem_cons_self]; simp), ins_last x r fun e he => h e (List.mem_cons_of_mem _ he)]
    rfl
theorem LK_mem {k : Nat} {e : Bs × Vr} (h : e ∈ LK k) : ∃ i, i < k ∧ e = (mkey i, mvar i) := by
  simp only [LK, List.mem_map, List.mem_range] at h
  obtain ⟨i, hi, rfl⟩ := h
  exact ⟨i, hi, rfl⟩
theorem LK_none {k j : Nat} (hk : k ≤ j) (hj : j < 2000) : fnd (LK k) (mkey j) = none := fnd_none_of fun e he => by
  obtain ⟨i, hi, rfl⟩ := LK_mem he
  exact before_ne (mkey_before (by omega) hj)
theorem LK_put (k : Nat) (hk : k < 2000) : put (LK k) (mkey k) (mvar k) = LK (k + 1) := by
  unfold put
  rw [del_none (LK_none (Nat.le_refl _) hk), LK_succ]
  refine ins_last _ _ fun e he => ?_
  obtain ⟨i, hi, rfl⟩ := LK_mem he
  exact before_asymm (mkey_before hi hk)
theorem LK_held {k j : Nat} (hk : k ≤ j) (hj : j < 2000) (o : Int) : held (LK k) (mkey j) o = false := by
  unfold held
  rw [LK_none hk hj]
  rfl
theorem LK_set (k : Nat) (hk : k < 1000) : setL (LK k) (mkey k) [120] 1 3 = LK (k + 1) ∧ setOk (LK k) (mkey k) 3 = true := by
  have hr : room (LK k) (mkey k) = true := by unfold room; rw [LK_len]; simp [hk]
  unfold setL setOk putIf
  rw [LK_held (Nat.le_refl _) (by omega)]
  simp only [getV, LK_none (Nat.le_refl k) (by omega : k < 2000), Bool.false_eq_true, if_false, hr, if_true, Option.getD, Bool.not_false, Bool.and_self, and_true]
  exact LK_put k (by omega)
theorem LK_full (j : Nat) (h1 : 1000 ≤ j) (h2 : j < 2000) : setL (LK 1000) (mkey j) [120] 1 3 = LK 1000 ∧ setOk (LK 1000) (mkey j) 3 = false := by
  have hr : room (LK 1000) (mkey j) = false := by unfold room; rw [LK_len, LK_none h1 h2]; simp
  unfold setL setOk putIf
  rw [LK_held h1 h2]
  simp only [hr, Bool.false_eq_true, if_false, Bool.and_false, and_self]
theorem LK_srt (k : Nat) (hk : k ≤ 1000) : Srt (LK k) := by
  unfold Srt LK
  rw [List.pairwise_map]
  refine List.Pairwise.imp_of_mem ?_ List.pairwise_lt_range
  intro a b ha hb hab
  exact mkey_before hab (by have := List.mem_range.1 hb; omega)
/-- set anew, the first one -/
theorem LK_again (k : Nat) (h0 : 0 < k) (hk : k ≤ 1000) : (setL (LK k) [0, 0] [121] 1 3).length = k ∧ setOk (LK k) [0, 0] 3 = true := by
  have hm : (mkey 0, mvar 0) ∈ LK k := by simp only [LK, List.mem_map, List.mem_range]; exact ⟨0, h0, rfl⟩
  have hf : fnd (LK k) [0, 0] = some (mvar 0) := (LK_srt k hk).fnd hm
  have hh : held (LK k) [0, 0] 3 = false := by unfold held getV; rw [hf]; rfl
  have hr : room (LK k) [0, 0] = true := by unfold room; rw [hf]; rfl
  unfold setL setOk putIf
  simp only [hh, hr, Bool.false_eq_true, if_false, if_true, Bool.not_false, Bool.and_self, and_true]
  rw [put_length]
  have := del_length (LK_srt k hk) [0, 0]
  rw [hf, LK_len] at this
  exact this
theorem conv2 (w : World) (x y : UInt8) : (convert 48 9 (.slice (some ⟨w.heap.size, 0, none⟩) 2 2)).run Try.prog (w.alloc (.cells #[.int .u8 x.toNat, .int .u8 y.toNat] 5)) = .ok (.string (mk [x, y])) (w.alloc (.cells #[.int .u8 x.toNat, .int .u8 y.toNat] 5)) := by
  refine run_convert_bytes_back (P := Try.prog) _ 48 9 5 ⟨w.heap.size, 0, none⟩ 2 [x, y] Try.underlying48 Try.underlying5 Try.underlying9 fun j hj => ?_
  rw [add_zero, Lib.cell_of_heap (heap_alloc_new _ _)]
  have : j = 0 ∨ j = 1 := by simp at hj; omega
  rcases this with rfl | rfl <;> rfl
set_option maxRecDepth 100000 in
set_option maxHeartbeats 2000000 in
theorem many_main (n : Int) (w : World) (h1 : 990 ≤ n) (h2 : n ≤ 1010) :
    Calls Try.prog 6 #[.int .i64 n] w fun r w' => r = .returned (.bool true) ∧ Below w.heap.size w w' := by
  obtain ⟨N, rfl⟩ : ∃ N : Nat, n = N := ⟨n.toNat, by omega⟩
  have k1 : ¬ (N : Int) < 990 := by omega
  have k2 : ¬ 1010 < (N : Int) := by omega
  have hN : N ≤ 1010 := by omega
  go_enter Try.func6, Try.ntmps6
  go_wp2_with fail
  refine (alive_any w).mono ?_
  rintro r w1 ⟨rfl, hb1⟩
  go_wp2_with fail
  refine (new_any w1).mono ?_
  rintro r w2 ⟨rfl, rfl⟩
  have hsw := hide' (Sw.new w1)
  go_wp2
  go_loopw [5, 6] (fun i _ wr => ∃ (k : Nat), k ≤ N ∧ i = .int .i64 k ∧ Sw w1.heap.size w1 wr w1.heap.size (LK (min k 1000))) (fun i _ _ => N - (intOf i).toNat)
  case atStart => exact ⟨0, Nat.zero_le _, rfl, hsw.out⟩
  case round =>
    obtain ⟨k, hk, rfl, hsr⟩ := hrel
    by_cases hkl : k < N
    · have e1 : (k : Int) < N := by omega
      have cv : (convert 48 9 (.slice (some ⟨wr.heap.size, 0, none⟩) 2 2)).run Try.prog (wr.alloc (.cells #[.int .u8 ((k : Int) / 100), .int .u8 ((k : Int) % 100)] 5)) = .ok (.string (mk (mkey k))) (wr.alloc (.cells #[.int .u8 ((k : Int) / 100), .int .u8 ((k : Int) % 100)] 5)) := by
        have a1 : ((UInt8.ofNat (k / 100)).toNat : Int) = (k : Int) / 100 := by rw [UInt8.toNat_ofNat']; omega
        have b1 : ((UInt8.ofNat (k % 100)).toNat : Int) = (k : Int) % 100 := by rw [UInt8.toNat_ofNat']; omega
        have := conv2 wr (UInt8.ofNat (k / 100)) (UInt8.ofNat (k % 100))
        rw [a1, b1] at this
        exact this
      obtain ⟨ob, hob, Q⟩ : ∃ ob : Bool, ob = decide ((k : Int) < 1000) ∧ Hid (∀ x, Calls Try.prog 16 #[.pointer (some ⟨w1.heap.size, 0, none⟩), .string (mk (mkey k)), .string ⟨#[120]⟩, .int .i64 1, .int .i64 3] (wr.alloc x) fun r w' => r = .returned (.bool ob) ∧ Sw w1.heap.size w1 w' w1.heap.size (LK (min (k + 1) 1000))) := by
        by_cases hkk : k < 1000
        · refine ⟨true, by simp; omega, fun x => ?_⟩
          refine (sw_set (hsr.more (Nat.le_refl _) (below_alloc (Below.refl _ _) (Nat.le_refl _) x)) (Nat.le_refl _) (mkey k) [120] 1 3 (by simp [mkey]) (by simp)).mono ?_
          rintro r w' ⟨rfl, h, _⟩
          rw [show min k 1000 = k by omega, (LK_set k hkk).1] at h
          rw [show min k 1000 = k by omega, (LK_set k hkk).2, show min (k + 1) 1000 = k + 1 by omega]
          exact ⟨rfl, h⟩
        · refine ⟨false, by simp; omega, fun x => ?_⟩
          refine (sw_set (hsr.more (Nat.le_refl _) (below_alloc (Below.refl _ _) (Nat.le_refl _) x)) (Nat.le_refl _) (mkey k) [120] 1 3 (by simp [mkey]) (by simp)).mono ?_
          rintro r w' ⟨rfl, h, _⟩
          rw [show min k 1000 = 1000 by omega, (LK_full k (by omega) (by omega)).1] at h
          rw [show min k 1000 = 1000 by omega, (LK_full k (by omega) (by omega)).2, show min (k + 1) 1000 = 1000 by omega]
          exact ⟨rfl, h⟩
      have HOb := hide' hob
      clear hsr hob
      go_wp2_with fail
      refine (Q.out _).mono ?_
      rintro r w4 ⟨rfl, h4⟩
      have H4 := hide' h4
      clear h4 Q cv
      by_cases hkk : (k : Int) < 1000
      · have : ob = true := by rw [HOb.out]; simp; omega
        subst this
        go_wp2
        refine ⟨⟨k + 1, by omega, by simp, H4.out⟩, by simp [intOf]; omega⟩
      · have : ob = false := by rw [HOb.out]; simp; omega
        subst this
        go_wp2
        refine ⟨⟨k + 1, by omega, by simp, H4.out⟩, by simp [intOf]; omega⟩
    · obtain rfl : k = N := by omega
      have e1 : ¬ (k : Int) < k := by omega
      have cv : ∀ W : World, (convert 48 9 (.slice (some ⟨W.heap.size, 0, none⟩) 2 2)).run Try.prog (W.alloc (.cells #[.int .u8 0, .int .u8 0] 5)) = .ok (.string ⟨#[0, 0]⟩) (W.alloc (.cells #[.int .u8 0, .int .u8 0] 5)) := fun W => conv2 W 0 0
      have hmn : 0 < min k 1000 := by omega
      have hmx : min k 1000 ≤ 1000 := by omega
      obtain ⟨L', hl', Q⟩ : ∃ L' : Vs, L'.length = min k 1000 ∧ Hid (∀ x, Calls Try.prog 16 #[.pointer (some ⟨w1.heap.size, 0, none⟩), .string ⟨#[0, 0]⟩, .string ⟨#[121]⟩, .int .i64 1, .int .i64 3] (wr.alloc x) fun r w' => r = .returned (.bool true) ∧ Sw w1.heap.size w1 w' w1.heap.size L') := by
        refine ⟨setL (LK (min k 1000)) [0, 0] [121] 1 3, (LK_again _ hmn hmx).1, fun x => ?_⟩
        refine (sw_set (hsr.more (Nat.le_refl _) (below_alloc (Below.refl _ _) (Nat.le_refl _) x)) (Nat.le_refl _) [0, 0] [121] 1 3 (by simp) (by simp)).mono ?_
        rintro r w' ⟨rfl, h, _⟩
        rw [(LK_again _ hmn hmx).2]
        exact ⟨rfl, h⟩
      clear hsr
      go_wp2_with fail
      refine (Q.out _).mono ?_
      rintro r w4 ⟨rfl, h4⟩
      obtain ⟨m4, s4, _, _⟩ := h4.ex
      have hb4 := hide' h4.below
      have ql := list_any w1.heap.size m4 L' w4 s4
      clear h4 s4 Q cv
      go_wp2_with fail
      refine ql.mono ?_
      rintro r w5 ⟨v, rfl, hrow, hb5⟩
      obtain ⟨va, vc, rfl⟩ : ∃ va vc, v = .slice va (min k 1000) vc := by
        rcases hrow.2 with ⟨rfl, e0⟩ | ⟨g, cap, cur, rfl, _⟩
        · rw [List.length_map, hl'] at e0
          exact ⟨none, 0, by rw [e0]⟩
        · rw [List.length_map, hl']
          exact ⟨_, _, rfl⟩
      have hbe : Hid (Below w.heap.size w w5) := hb1.trans ((hb4.out.trans (hb5.mono hb4.out.size)).mono hb1.size)
      clear hrow hb5 ql
      clear hl' hmn hmx hb4 hsw hb1
      by_cases hkk : 1000 ≤ k
      · rw [show min k 1000 = 1000 by omega]
        have f1 : (1000 : Int) ≤ k := by omega
        go_wp2
        go_ret
        exact ⟨rfl, hbe.out⟩
      · rw [show min k 1000 = k by omega]
        have f1 : ¬ (1000 : Int) ≤ k := by omega
        have f2 : (k : Int) < 1000 := by omega
        go_wp2
        go_ret
        exact ⟨rfl, hbe.out⟩
theorem many_any (n : Int) (w : World) : Calls Try.prog 6 #[.int .i64 n] w fun r w' => r = .returned (.bool true) ∧ Below w.heap.size w w' := by
  have q := alive_any w
  by_cases h1 : n < 990
  · go_enter Try.func6, Try.ntmps6
    go_wp2_with fail
    refine q.mono ?_
    rintro r w1 ⟨rfl, hb1⟩
    go_wp2
    go_ret
    exact ⟨rfl, hb1⟩
  by_cases h2 : 1010 < n
  · go_enter Try.func6, Try.ntmps6
    go_wp2_with fail
    refine q.mono ?_
    rintro r w1 ⟨rfl, hb1⟩
    go_wp2
    go_ret
    exact ⟨rfl, hb1⟩
  exact many_main n w (by omega) (by omega)
end Go.Proofs.Ytillechackcbpaa
