/- What the law SeekOrder makes, as plain functions, and what is found there: by computing. -/
import Derived.Test.YtabmnkddmdffkaaGreatDoorAFin
import Derived.Test.YtabmnkddmdffkaaGreatDoorAOps
namespace Go.Proofs.YtabmnkddmdffkaaGreatDoor.Sk
open Go.RowKit Go.Shelf

/-- the directory number k -/
def dk (k : Nat) : Bs := [100, 48 + UInt8.ofNat k]
/-- the directories' names, colons between -/
def dT : Nat → Bs
  | 0 => []
  | k + 1 => dT k ++ ((if k = 0 then [] else [58]) ++ dk k)
/-- the tree and the clock behind k rounds -/
def oSt (inn : Nat) : Nat → Tr × Int
  | 0 => ([], 0)
  | k + 1 =>
    let m := (mkdirR (oSt inn k).1 (oSt inn k).2 1000 (clean (dk k))).2
    if inn ≤ k then (writeR m.1 m.2 1000 (clean (dk k ++ [47, 120])) [] false).2 else m
/-- .. and with a file of one's own -/
def rT (inn n : Nat) (here : Bool) : Tr × Int := if here then (writeR (oSt inn n).1 (oSt inn n).2 1000 (clean [120]) [] false).2 else oSt inn n
def oL (n : Nat) (vp : Bool) : List Prw := if vp then [(mk [121, 37], mk [100, 48]), (mk [37], mk (cmap (dT n)))] else []
def oD (n : Nat) (vp : Bool) : Bs := if vp then [] else dT n
/-- what is to be found -/
def oR (inn n : Nat) (here : Bool) : Bs × Bool := if here then ([120], true) else if inn = n then ([120], false) else (dk inn ++ [47, 120], true)
def oAll (p : Nat → Nat → Bool → Bool → Bool) : Bool := (List.range 10).all fun n => (List.range (n + 1)).all fun inn => p n inn true true && p n inn true false && p n inn false true && p n inn false false
theorem oAll_at {p : Nat → Nat → Bool → Bool → Bool} (h : oAll p = true) {n inn : Nat} (hn : n ≤ 9) (hi : inn ≤ n) (a b : Bool) : p n inn a b = true := by
  unfold oAll at h
  have h1 := List.all_eq_true.1 h n (List.mem_range.2 (by omega))
  have h2 := List.all_eq_true.1 h1 inn (List.mem_range.2 (by omega))
  simp only [Bool.and_eq_true] at h2
  obtain ⟨⟨⟨h3, h4⟩, h5⟩, h6⟩ := h2
  cases a <;> cases b <;> assumption
theorem o_find {n inn : Nat} (h1 : 1 ≤ n) (hn : n ≤ 9) (hi : inn ≤ n) (here vp : Bool) : fndP (fun p => stT (rT inn n here).1 (clean p)) (oL n vp) [120] (oD n vp) = oR inn n here := by
  have h : oAll (fun n inn here vp => n == 0 || (fndP (fun p => stT (rT inn n here).1 (clean p)) (oL n vp) [120] (oD n vp) == oR inn n here)) = true := by decide +kernel
  have := oAll_at h hn hi here vp
  simp only [Bool.or_eq_true, beq_iff_eq] at this
  rcases this with h0 | h0
  · omega
  · exact h0
theorem o_clk {n inn k : Nat} (hn : n ≤ 9) (hi : inn ≤ n) (hk : k ≤ n) : (oSt inn k).2 ≤ 1000 ∧ 0 ≤ (oSt inn k).2 ∧ (mkdirR (oSt inn k).1 (oSt inn k).2 1000 (clean (dk k))).2.2 ≤ 1000 := by
  have h : ((List.range 10).all fun n => (List.range 10).all fun inn => decide ((oSt inn n).2 ≤ 1000 ∧ 0 ≤ (oSt inn n).2 ∧ (mkdirR (oSt inn n).1 (oSt inn n).2 1000 (clean (dk n))).2.2 ≤ 1000)) = true := by decide +kernel
  have h1 := List.all_eq_true.1 h k (List.mem_range.2 (by omega))
  have h2 := List.all_eq_true.1 h1 inn (List.mem_range.2 (by omega))
  exact of_decide_eq_true h2
theorem o_pl {n : Nat} (hn : n ≤ 9) (vp : Bool) : ∀ y ∈ plL (oL n vp) [120] (oD n vp), isM y = false ∧ y.length ≤ 400000 := by
  have h : ((List.range 10).all fun n => [true, false].all fun vp => (plL (oL n vp) [120] (oD n vp)).all fun y => !isM y && decide (y.length ≤ 1000)) = true := by decide +kernel
  have h1 := List.all_eq_true.1 h n (List.mem_range.2 (by omega))
  have h2 := List.all_eq_true.1 h1 vp (by cases vp <;> simp)
  intro y hy
  have h3 := List.all_eq_true.1 h2 y hy
  simp only [Bool.and_eq_true, Bool.not_eq_true', decide_eq_true_eq] at h3
  exact ⟨h3.1, by omega⟩
theorem dT_len (n : Nat) (hn : n ≤ 9) : (dT n).length ≤ 27 := by
  have h : ((List.range 10).all fun n => decide ((dT n).length ≤ 27)) = true := by decide +kernel
  exact of_decide_eq_true (List.all_eq_true.1 h n (List.mem_range.2 (by omega)))
theorem dk_ext (k : Nat) (hk : k ≤ 9) : (⟨#[100]⟩ : ByteArray) ++ (⟨#[48, 49, 50, 51, 52, 53, 54, 55, 56, 57]⟩ : ByteArray).extract k (k + 1) = mk (dk k) := by
  have h : ((List.range 10).all fun k => ((⟨#[100]⟩ : ByteArray) ++ (⟨#[48, 49, 50, 51, 52, 53, 54, 55, 56, 57]⟩ : ByteArray).extract k (k + 1)).data.toList == dk k) = true := by decide +kernel
  have h1 := List.all_eq_true.1 h k (List.mem_range.2 (by omega))
  simp only [beq_iff_eq] at h1
  exact tl_inj _ _ h1
end Go.Proofs.YtabmnkddmdffkaaGreatDoor.Sk
