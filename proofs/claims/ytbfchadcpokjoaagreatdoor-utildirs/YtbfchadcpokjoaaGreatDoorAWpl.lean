/- Plain: the chain of directories named d, and what the file system's calls make of it. -/
import Derived.Test.YtbfchadcpokjoaaGreatDoorAZm
namespace Go.Proofs.YtbfchadcpokjoaaGreatDoor

/-- the path of k names, each d -/
def dp : Nat → Bs
  | 0 => []
  | k + 1 => (if k = 0 then [] else dp k ++ [47]) ++ [100]
/-- the tree of k directories, one within another -/
def ch (k : Nat) : Tr := (List.range k).map fun i => (dp (i + 1), ⟨true, (i + 1 : Nat), []⟩)
theorem below20 (P : Nat → Bool) (h : (List.range 21).all P = true) (k : Nat) (hk : k ≤ 20) : P k = true := List.all_eq_true.1 h k (List.mem_range.2 (by omega))
instance : DecidableEq Nd := fun a b =>
  if h : a.dir = b.dir ∧ a.time = b.time ∧ a.data = b.data then isTrue (by obtain ⟨h1, h2, h3⟩ := h; cases a; cases b; cases h1; cases h2; cases h3; rfl) else isFalse (fun e => h (by rw [e]; exact ⟨rfl, rfl, rfl⟩))
theorem dp_len (k : Nat) : (dp k).length ≤ 2 * k := by
  induction k with
  | zero => exact Nat.le_refl _
  | succ k ih => unfold dp; split <;> simp <;> omega
set_option maxRecDepth 100000 in
theorem dp_clean (k : Nat) (hk : k ≤ 20) : clean (dp k) = dp k := by
  have := below20 (fun k => decide (clean (dp k) = dp k)) (by decide +kernel) k hk
  exact of_decide_eq_true this
set_option maxRecDepth 100000 in
theorem dp_join (k : Nat) (hk : k ≤ 20) : clean (dp k ++ 47 :: [100]) = dp (k + 1) := by
  have := below20 (fun k => decide (clean (dp k ++ 47 :: [100]) = dp (k + 1))) (by decide +kernel) k hk
  exact of_decide_eq_true this
set_option maxRecDepth 100000 in
theorem ch_mk (k : Nat) (hk : k < 20) : mkdirR (ch k) k 1000 (dp (k + 1)) = (0, ch (k + 1), ((k + 1 : Nat) : Int)) := by
  have := below20 (fun k => decide (k = 20 ∨ mkdirR (ch k) k 1000 (dp (k + 1)) = (0, ch (k + 1), ((k + 1 : Nat) : Int)))) (by decide +kernel) k (by omega)
  rcases of_decide_eq_true this with h | h
  · omega
  · exact h
set_option maxRecDepth 100000 in
theorem ch_there (k : Nat) (hk : k ≤ 20) (h1 : 1 ≤ k) : mkdirR (ch k) k 1000 (dp k) = (13, ch k, (k : Int)) := by
  have := below20 (fun k => decide (k = 0 ∨ mkdirR (ch k) k 1000 (dp k) = (13, ch k, (k : Int)))) (by decide +kernel) k (by omega)
  rcases of_decide_eq_true this with h | h
  · omega
  · exact h
set_option maxRecDepth 100000 in
theorem ch_isdir (k j : Nat) (hk : k ≤ 20) (hj : j ≤ 20) (h1 : 1 ≤ j) : ((statR (ch k) (dp j)).1 == 2) = decide (j ≤ k) := by
  have := below20 (fun k => (List.range 21).all fun j => decide (j = 0 ∨ ((statR (ch k) (dp j)).1 == 2) = decide (j ≤ k))) (by decide +kernel) k (by omega)
  have := List.all_eq_true.1 this j (List.mem_range.2 (by omega))
  rcases of_decide_eq_true this with h | h
  · omega
  · exact h
set_option maxRecDepth 100000 in
theorem ch_rm (k : Nat) (hk : k ≤ 20) (h2 : 2 ≤ k) : removeR (ch k) k [100] = (14, ch k, (k : Int)) ∧ removeR (ch k) k (dp k) = (0, ch (k - 1), ((k + 1 : Nat) : Int)) := by
  have := below20 (fun k => decide (k < 2 ∨ (removeR (ch k) k [100] = (14, ch k, (k : Int)) ∧ removeR (ch k) k (dp k) = (0, ch (k - 1), ((k + 1 : Nat) : Int))))) (by decide +kernel) k (by omega)
  rcases of_decide_eq_true this with h | h
  · omega
  · exact h
set_option maxRecDepth 100000 in
theorem ch_rm1 : removeR (ch 1) 1 [100] = (0, [], 2) ∧ removeR [] 2 [100] = (10, [], 2) ∧ dp 1 = [100] := by decide +kernel
set_option maxRecDepth 100000 in
theorem dp_front (k : Nat) (hk : k ≤ 20) : dp (k + 2) = 100 :: 47 :: dp (k + 1) := by
  have := below20 (fun k => decide (dp (k + 2) = 100 :: 47 :: dp (k + 1))) (by decide +kernel) k hk
  exact of_decide_eq_true this
theorem ch_len (k : Nat) : (ch k).length = k := by simp [ch]
end Go.Proofs.YtbfchadcpokjoaaGreatDoor
