/- The contract of anvilref1.Find. -/
import Derived.Test.YtcijjigafcpcpaaGreatDoorLen
namespace Go.Proofs.YtcijjigafcpcpaaGreatDoor
open Go.RowKit Go.Maps

def At (s sub : Bs) (i : Nat) : Prop := i + sub.length ≤ s.length ∧ (s.drop i).take sub.length = sub
/-- the first place of sub in s -/
def FindR (s sub : Bs) (z : Int) : Prop := (z = -1 ∧ ∀ i, ¬ At s sub i) ∨ ∃ i : Nat, z = i ∧ At s sub i ∧ ∀ j, j < i → ¬ At s sub j
set_option maxRecDepth 100000 in
set_option maxHeartbeats 1000000 in
theorem find_any (s sub : Bs) (hs : s.length ≤ 1000000) (hb : sub.length ≤ 1000000) (w : World) : Calls Tryz.prog 22 #[.string (mk s), .string (mk sub)] w fun r w' => (∃ z, r = .returned (.int .i64 z) ∧ FindR s sub z) ∧ w' = w := by
  have e1 := mk_size s
  have e2 := mk_size sub
  go_enter Tryz.func22, Tryz.ntmps22
  go_wp2
  go_loopw [5] (fun i wr => ∃ k : Nat, i = .int .i64 k ∧ k ≤ s.length + 1 ∧ (∀ j, j < k → ¬ At s sub j) ∧ wr = w) (fun i _ => s.length + 1 - (intOf i).toNat)
  case atStart => exact ⟨0, rfl, by omega, fun j hj => absurd hj (Nat.not_lt_zero _), rfl⟩
  case round =>
    obtain ⟨k, rfl, hk, hno, rfl⟩ := hrel
    by_cases hle : k + sub.length ≤ s.length
    · have k1 : (k : Int) ≤ (s.length : Int) - (sub.length : Int) := by omega
      have k2 : ((k : Int) + (sub.length : Int)) ≤ s.length := by omega
      have hx : (mk s).extract k (k + sub.length) = mk ((s.drop k).take sub.length) := by rw [ext_mk, tl_mk, Nat.add_sub_cancel_left]
      by_cases hat : (s.drop k).take sub.length = sub
      · have hA : At s sub k := ⟨hle, hat⟩
        have HA := hide' (And.intro hA hno)
        rw [hat] at hx
        clear hA hno hat
        go_wp2
        go_ret
        exact ⟨⟨k, rfl, .inr ⟨k, rfl, HA.out⟩⟩, rfl⟩
      · have hA : ¬ At s sub k := fun h => hat h.2
        have hno2 : ∀ j, j < k + 1 → ¬ At s sub j := fun j hj => by
          by_cases e : j = k
          · subst e; exact hA
          · exact hno j (by omega)
        have HA := hide' hno2
        have hq : ((s.drop k).take sub.length == sub) = false := beq_eq_false_iff_ne.2 hat
        clear hA hno hno2
        go_wp2
        exact ⟨⟨k + 1, by simp, by omega, HA.out, trivial⟩, by simp [intOf]; omega⟩
    · have k1 : ¬ (k : Int) ≤ (s.length : Int) - (sub.length : Int) := by omega
      have hno2 : ∀ j, ¬ At s sub j := fun j hj => by
        by_cases e : j < k
        · exact hno j e hj
        · have := hj.1; omega
      have HA := hide' hno2
      clear hno hno2
      go_wp2
      go_ret
      exact ⟨⟨-1, rfl, .inl ⟨rfl, HA.out⟩⟩, rfl⟩
end Go.Proofs.YtcijjigafcpcpaaGreatDoor
