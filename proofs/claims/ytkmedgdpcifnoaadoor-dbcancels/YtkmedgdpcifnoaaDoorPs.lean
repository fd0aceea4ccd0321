/- The contract of db.parts. -/
import Derived.Test.YtkmedgdpcifnoaaDoorNo
import Derived.Test.YtkmedgdpcifnoaaDoorRl
import Derived.Deep.QuietTactic
import Derived.Deep.Cut
import Derived.Deep.CutBlock
namespace Go.Proofs.YtkmedgdpcifnoaaDoor
open Go.RowKit Go.Shelf

set_option maxRecDepth 100000 in
set_option maxHeartbeats 2000000 in
theorem parts_some (D g n m c rc : Nat) (ra : Option Addr) (v2 v3 : Value) (w : World) (hd : DbC w D (.slice ra n rc) (.slice (some ⟨g, 0, none⟩) m c) v2 v3) (hnm : n ≤ m) (hmc : m ≤ c) :
    Calls Tryd.prog 36 #[.pointer (some ⟨D, 0, none⟩)] w fun e w' => e = .returned (.tuple #[.slice (some ⟨g, 0, none⟩) n n, .slice (if c = n then some ⟨g, 0, none⟩ else some ⟨g, n * 11, none⟩) (m - n) (c - n)]) ∧ Below w.heap.size w w' := by

  have c0 := hd.c0
  have c1 := hd.c1
  go_enter Tryd.func36, Tryd.ntmps36
  go_upto_region 2 with fail
  go_quiet (fail)
  rename_i nq
  go_wp2
  all_goals go_ret2
  all_goals exact ⟨rfl, below_drewN (Below.refl _ w) nq⟩
set_option maxRecDepth 100000 in
set_option maxHeartbeats 2000000 in
theorem parts_nil (D rc : Nat) (ra : Option Addr) (v2 v3 : Value) (w : World) (hd : DbC w D (.slice ra 0 rc) (.slice none 0 0) v2 v3) :
    Calls Tryd.prog 36 #[.pointer (some ⟨D, 0, none⟩)] w fun e w' => e = .returned (.tuple #[.slice none 0 0, .slice none 0 0]) ∧ Below w.heap.size w w' := by
  have c0 := hd.c0
  have c1 := hd.c1
  go_enter Tryd.func36, Tryd.ntmps36
  go_upto_region 2 with fail
  go_quiet (fail)
  rename_i nq
  go_wp2
  go_ret2
  exact ⟨rfl, below_drewN (Below.refl _ w) nq⟩
/-- the own rules and those behind them are read -/
theorem parts_any (D B rc : Nat) (ra : Option Addr) (v1 v2 v3 : Value) (n : Nat) (A : List Rx) (w : World) (hd : DbC w D (.slice ra n rc) v1 v2 v3) (hA : OwnR w B v1 A) (hn : n ≤ A.length) :
    Calls Tryd.prog 36 #[.pointer (some ⟨D, 0, none⟩)] w fun e w' => ∃ o b, e = .returned (.tuple #[o, b]) ∧ Rls w' o (A.take n) ∧ Rls w' b (A.drop n) ∧ Below w.heap.size w w' := by
  have up : ∀ {w' : World}, Below w.heap.size w w' → ∀ x ∈ A, RxS w' x := fun hb x hx => ((hA.lists x hx).below hb).reads
  rcases hA.row.2 with ⟨h1, h0⟩ | ⟨g, cap, cur, rfl, hB, hg, _, h5⟩
  · obtain rfl : A = [] := List.length_eq_zero_iff.1 h0
    obtain rfl : n = 0 := by simpa using hn
    subst h1
    refine (parts_nil D rc ra v2 v3 w hd).mono ?_
    rintro e w' ⟨rfl, hb⟩
    exact ⟨_, _, rfl, ⟨.inl ⟨_, _, rfl, rfl⟩, fun _ h => by cases h⟩, ⟨.inl ⟨_, _, rfl, rfl⟩, fun _ h => by cases h⟩, hb⟩
  · have hrow := hA.row

    rename_i hAc
    clear h5
    refine (parts_some D g n A.length cap rc ra v2 v3 w hd hn hAc).mono ?_
    rintro e w' ⟨rfl, hb⟩
    have hgl := lt_of_block hg
    have hgw : g < w'.heap.size := Nat.lt_of_lt_of_le hgl hb.size
    have rr : ∀ j, j < A.length → RuAt w' g (0 + j * 11) (A.getD j zeroRx) := fun j hj => (ruAt_row hrow j hj).block (hb.block g hgl)
    refine ⟨_, _, rfl, ⟨.inr ⟨g, 0, n, by rw [List.length_take, Nat.min_eq_left hn], hgw, fun j hj => ?_⟩, fun x hx => up hb x (List.mem_of_mem_take hx)⟩, ⟨?_, fun x hx => up hb x (List.mem_of_mem_drop hx)⟩, hb⟩
    · rw [List.length_take] at hj
      have e1 : (A.take n).getD j zeroRx = A.getD j zeroRx := by rw [List.getD_eq_getElem?_getD, List.getD_eq_getElem?_getD, List.getElem?_take_of_lt (by omega)]
      rw [e1]
      exact rr j (by omega)
    · by_cases hcn : cap = n
      · rw [if_pos hcn]
        exact .inl ⟨_, _, by rw [show A.length - n = 0 by omega], List.drop_eq_nil_of_le (by omega)⟩
      · rw [if_neg hcn]
        refine .inr ⟨g, n * 11, cap - n, by rw [List.length_drop], hgw, fun j hj => ?_⟩
        rw [List.length_drop] at hj
        have e1 : (A.drop n).getD j zeroRx = A.getD (n + j) zeroRx := by rw [List.getD_eq_getElem?_getD, List.getD_eq_getElem?_getD, List.getElem?_drop]
        rw [e1]
        have := rr (n + j) (by omega)
        rwa [show 0 + (n + j) * 11 = n * 11 + j * 11 by omega] at this
end Go.Proofs.YtkmedgdpcifnoaaDoor
