/- The contract of refs.lookup. -/
import Derived.Test.YtaemmgllhmjceaaDoorFn
namespace Go.Proofs.YtaemmgllhmjceaaDoor
open Go.RowKit

theorem info58 : (Tryd.prog.info? 58).map (fun i : TypeInfo => (i.zero, i.size, i.bytes)) = some (some (.agg #[.string ⟨#[]⟩, .int .i64 0, .int .i64 0]), 3, 32) := by kernel_rfl
/-- a function's value -/
abbrev fnV (f : Fn) : Value := .agg #[.string (mk f.1), .int .i64 f.2.1, .int .i64 f.2.2]
theorem str_eq (a b : ByteArray) : (a.toList == b.toList) = decide (tl a = tl b) := by
  rw [Lib.toList_data, Lib.toList_data]
  unfold tl
  rw [Bool.eq_iff_iff, beq_iff_eq, decide_eq_true_iff]
set_option maxRecDepth 100000 in
set_option maxHeartbeats 4000000 in
theorem lookup_any (s : ByteArray) (w : World) (hF : FnsAt w 0) :
    Calls Tryd.prog 31 #[.string s] w fun e w' => e = .returned (.tuple #[fnV (fnF (fnd (tl s))), .bool (fnd (tl s)).isSome]) ∧ Below w.heap.size w w' := by
  go_enter Tryd.func31, Tryd.ntmps31
  go_wp2
  go_loopw [5] (fun i wr => ∃ k : Nat, k ≤ 34 ∧ i = .int .i64 k ∧ wr = w.alloc (.cells #[.string ⟨#[]⟩, .int .i64 0, .int .i64 0] 58) ∧ Hid (∀ j, j < k → ¬ (fnAt j).1 = tl s)) (fun i _ => 34 - (intOf i).toNat)
  case atStart => exact ⟨0, Nat.zero_le _, rfl, rfl, fun j hj => absurd hj (Nat.not_lt_zero j)⟩
  case round =>
    obtain ⟨k, hk, rfl, rfl, HI⟩ := hrel
    have hF' := hF.below ((Below.refl _ w).alloc (Nat.le_refl _) (.cells #[.string ⟨#[]⟩, .int .i64 0, .int .i64 0] 58))
    by_cases hlt : k < 34
    · have c0 := hF'.name k hlt
      have c1 := hF'.least k hlt
      have c2 := hF'.most k hlt
      by_cases h1 : (fnAt k).1 = tl s
      · have d1 : ((nmA k).toList == s.toList) = true := by rw [str_eq, tl_nm]; exact decide_eq_true h1
        have HR : Hid (fnd (tl s) = some (fnAt k)) := fnd_yes _ k hlt h1
        clear HI h1 hF hF'
        have hB : ∀ o, Below w.heap.size w (w.alloc o) := fun o => (Below.refl _ w).alloc (Nat.le_refl _) o
        go_wp2
        refine bodyPost_ret (by simp [results, Tryd.results31, go_sem]; rfl) rfl ?_
        rw [HR.out]
        exact ⟨rfl, hB _⟩
      · have d1 : ((nmA k).toList == s.toList) = false := by rw [str_eq, tl_nm]; exact decide_eq_false h1
        have HI' : Hid (∀ j, j < k + 1 → ¬ (fnAt j).1 = tl s) := fun j hj => by
          by_cases hjk : j = k
          · subst hjk; exact h1
          · exact HI.out j (by omega)
        clear HI h1 hF hF' c1 c2
        go_wp2
        exact ⟨⟨k + 1, by omega, by go_num, trivial, HI'⟩, by simp [intOf]; omega⟩
    · have HR : Hid (fnd (tl s) = none) := fnd_no _ fun j hj => HI.out j (by omega)
      clear HI hF hF'
      have hB : ∀ o, Below w.heap.size w (w.alloc o) := fun o => (Below.refl _ w).alloc (Nat.le_refl _) o
      go_wp2
      refine bodyPost_ret (by simp [results, Tryd.results31, go_sem]; rfl) rfl ?_
      rw [HR.out]
      exact ⟨rfl, hB _⟩
end Go.Proofs.YtaemmgllhmjceaaDoor
