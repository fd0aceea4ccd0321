/- The contracts of db.special and db.isSpecial. -/
import Derived.Test.YtkmedgdpcifnoaaDoorLs
namespace Go.Proofs.YtkmedgdpcifnoaaDoor
open Go.RowKit Go.Shelf

theorem speA_const (x : Bs) (l : List Bs) (h : ∀ y ∈ l, ¬ x = y) : hasB l x = false := by
  unfold hasB
  rw [Bool.eq_false_iff]
  intro h1
  obtain ⟨y, hy, e⟩ := List.any_eq_true.1 h1
  exact h y hy (by simpa using (eq_of_beq e).symm)
set_option maxHeartbeats 2000000 in
theorem special_any (x : Bs) (w : World) :
    Calls Tryd.prog 48 #[sV x] w fun e w' => e = .returned (.tuple #[.bool (speI x), .bool (speA x)]) ∧ w' = w := by
  by_cases h0 : x = [46, 83, 73, 76, 69, 78, 84]
  · subst h0
    go_enter Tryd.func48, Tryd.ntmps48
    go_wp2
    go_ret2
    exact ⟨rfl, rfl⟩
  by_cases h1 : x = [46, 73, 71, 78, 79, 82, 69]
  · subst h1
    go_enter Tryd.func48, Tryd.ntmps48
    go_wp2
    go_ret2
    exact ⟨rfl, rfl⟩
  by_cases h2 : x = [46, 80, 82, 69, 67, 73, 79, 85, 83]
  · subst h2
    go_enter Tryd.func48, Tryd.ntmps48
    go_wp2
    go_ret2
    exact ⟨rfl, rfl⟩
  by_cases h3 : x = [46, 83, 69, 67, 79, 78, 68, 65, 82, 89]
  · subst h3
    go_enter Tryd.func48, Tryd.ntmps48
    go_wp2
    go_ret2
    exact ⟨rfl, rfl⟩
  by_cases h4 : x = [46, 80, 72, 79, 78, 89]
  · subst h4
    go_enter Tryd.func48, Tryd.ntmps48
    go_wp2
    go_ret2
    exact ⟨rfl, rfl⟩
  by_cases h5 : x = [46, 83, 85, 70, 70, 73, 88, 69, 83]
  · subst h5
    go_enter Tryd.func48, Tryd.ntmps48
    go_wp2
    go_ret2
    exact ⟨rfl, rfl⟩
  by_cases h6 : x = [46, 68, 69, 70, 65, 85, 76, 84]
  · subst h6
    go_enter Tryd.func48, Tryd.ntmps48
    go_wp2
    go_ret2
    exact ⟨rfl, rfl⟩
  by_cases h7 : x = [46, 73, 78, 84, 69, 82, 77, 69, 68, 73, 65, 84, 69]
  · subst h7
    go_enter Tryd.func48, Tryd.ntmps48
    go_wp2
    go_ret2
    exact ⟨rfl, rfl⟩
  by_cases h8 : x = [46, 83, 69, 67, 79, 78, 68, 69, 88, 80, 65, 78, 83, 73, 79, 78]
  · subst h8
    go_enter Tryd.func48, Tryd.ntmps48
    go_wp2
    go_ret2
    exact ⟨rfl, rfl⟩
  by_cases h9 : x = [46, 68, 69, 76, 69, 84, 69, 95, 79, 78, 95, 69, 82, 82, 79, 82]
  · subst h9
    go_enter Tryd.func48, Tryd.ntmps48
    go_wp2
    go_ret2
    exact ⟨rfl, rfl⟩
  by_cases h10 : x = [46, 79, 78, 69, 83, 72, 69, 76, 76]
  · subst h10
    go_enter Tryd.func48, Tryd.ntmps48
    go_wp2
    go_ret2
    exact ⟨rfl, rfl⟩
  by_cases h11 : x = [46, 78, 79, 84, 80, 65, 82, 65, 76, 76, 69, 76]
  · subst h11
    go_enter Tryd.func48, Tryd.ntmps48
    go_wp2
    go_ret2
    exact ⟨rfl, rfl⟩
  have eA : speA x = false := speA_const x _ (by simp only [allN, List.mem_cons, List.not_mem_nil, or_false]; rintro y (rfl | rfl | rfl | rfl) <;> assumption)
  have eI : speI x = false := by
    unfold speI
    rw [eA, speA_const x _ (by simp only [oneN, sufN, List.mem_cons, List.not_mem_nil, or_false]; rintro y (rfl | rfl | rfl | rfl | rfl | rfl | rfl | rfl) <;> assumption)]
    rfl
  rw [eA, eI]
  have k0 : (x == [46, 83, 73, 76, 69, 78, 84]) = false := beq_eq_false_iff_ne.2 h0
  have k1 : (x == [46, 73, 71, 78, 79, 82, 69]) = false := beq_eq_false_iff_ne.2 h1
  have k2 : (x == [46, 80, 82, 69, 67, 73, 79, 85, 83]) = false := beq_eq_false_iff_ne.2 h2
  have k3 : (x == [46, 83, 69, 67, 79, 78, 68, 65, 82, 89]) = false := beq_eq_false_iff_ne.2 h3
  have k4 : (x == [46, 80, 72, 79, 78, 89]) = false := beq_eq_false_iff_ne.2 h4
  have k5 : (x == [46, 83, 85, 70, 70, 73, 88, 69, 83]) = false := beq_eq_false_iff_ne.2 h5
  have k6 : (x == [46, 68, 69, 70, 65, 85, 76, 84]) = false := beq_eq_false_iff_ne.2 h6
  have k7 : (x == [46, 73, 78, 84, 69, 82, 77, 69, 68, 73, 65, 84, 69]) = false := beq_eq_false_iff_ne.2 h7
  have k8 : (x == [46, 83, 69, 67, 79, 78, 68, 69, 88, 80, 65, 78, 83, 73, 79, 78]) = false := beq_eq_false_iff_ne.2 h8
  have k9 : (x == [46, 68, 69, 76, 69, 84, 69, 95, 79, 78, 95, 69, 82, 82, 79, 82]) = false := beq_eq_false_iff_ne.2 h9
  have k10 : (x == [46, 79, 78, 69, 83, 72, 69, 76, 76]) = false := beq_eq_false_iff_ne.2 h10
  have k11 : (x == [46, 78, 79, 84, 80, 65, 82, 65, 76, 76, 69, 76]) = false := beq_eq_false_iff_ne.2 h11
  clear eA eI
  go_enter Tryd.func48, Tryd.ntmps48
  go_wp2
  go_ret2
  exact ⟨rfl, rfl⟩
theorem isSpecial_any (x : Bs) (w : World) :
    Calls Tryd.prog 58 #[sV x] w fun e w' => e = .returned (.bool (speI x)) ∧ w' = w := by
  have k := fun w => special_any x w
  generalize speI x = a at k ⊢
  generalize speA x = b at k
  go_enter Tryd.func58, Tryd.ntmps58
  go_wp2_with fail
  refine (k _).mono ?_
  rintro e w1 ⟨rfl, rfl⟩
  go_wp2
  go_ret
  exact ⟨rfl, rfl⟩
/-- the first text that is special -/
def firstS (L : List Bs) : Int := match L.findIdx? speI with | some k => k | none => -1
set_option maxHeartbeats 2000000 in
theorem indexFunc_some (L : List Bs) (b off cap : Nat) (w : World) (hl : L.length ≤ 100000) (hc : ∀ j, j < L.length → w.cell? ⟨b, off + j, none⟩ = some (sV (L.getD j []))) :
    Calls Tryd.prog 64 #[.slice (some ⟨b, off, none⟩) L.length cap, .func (.func 58) #[] #[]] w fun e w' => e = .returned (.int .i64 (firstS L)) ∧ w' = w := by
  go_enter Tryd.func64, Tryd.ntmps64
  go_wp2
  go_loopw [8, 5] (fun i _ wr => ∃ k : Nat, k ≤ L.length ∧ i = .int .i64 k ∧ wr = w ∧ (∀ j, j < k → speI (L.getD j []) = false)) (fun i _ _ => L.length - (intOf i).toNat)
  case atStart => exact ⟨0, Nat.zero_le _, rfl, rfl, fun j hj => absurd hj (Nat.not_lt_zero _)⟩
  case round =>
    obtain ⟨k, hk, rfl, rfl, hn⟩ := hrel
    by_cases hlt : k < L.length
    · have cc := hc k hlt
      have kS := fun w => isSpecial_any (L.getD k []) w
      have HN := hide' hn
      have HC := hide' hc
      cases hs : speI (L.getD k []) with
      | true =>
        rw [hs] at kS
        have hf : firstS L = (k : Int) := by
          unfold firstS
          have : L.findIdx? speI = some k := by
            rw [List.findIdx?_eq_some_iff_getElem]
            refine ⟨hlt, ?_, fun j hj => ?_⟩
            · have hs' := hs
              rw [List.getD_eq_getElem?_getD, List.getElem?_eq_getElem hlt] at hs'
              exact hs'
            · have := HN.out j hj
              rw [List.getD_eq_getElem?_getD, List.getElem?_eq_getElem (by omega)] at this
              simpa using this
          rw [this]
        have HFS := hide' hf
        clear hf
        generalize L.getD k [] = x at cc kS
        clear hn hc hs
        go_wp2_with fail
        refine (kS _).mono ?_
        rintro e w1 ⟨rfl, rfl⟩
        go_wp2
        go_ret
        exact ⟨by rw [HFS.out]; rfl, rfl⟩
      | false =>
        rw [hs] at kS
        have hn' : ∀ j, j < k + 1 → speI (L.getD j []) = false := fun j hj => by
          rcases Nat.lt_or_ge j k with h1 | h1
          · exact hn j h1
          · obtain rfl : j = k := by omega
            exact hs
        have HN' := hide' hn'
        generalize L.getD k [] = x at cc kS
        clear hn hc hs hn'
        go_wp2_with fail
        refine (kS _).mono ?_
        rintro e w1 ⟨rfl, rfl⟩
        go_wp2
        exact ⟨⟨k + 1, by omega, by go_num, trivial, HN'.out⟩, by simp [intOf]; omega⟩
    · have hf : firstS L = -1 := by
        unfold firstS
        have : L.findIdx? speI = none := by
          rw [List.findIdx?_eq_none_iff]
          intro x hx
          obtain ⟨j, hj, rfl⟩ := List.getElem_of_mem hx
          have := hn j (by omega)
          rw [List.getD_eq_getElem?_getD, List.getElem?_eq_getElem hj] at this
          exact this
        rw [this]
      have HFS := hide' hf
      clear hn hc hf
      go_wp2
      go_ret
      exact ⟨by rw [HFS.out]; rfl, rfl⟩
theorem indexFunc_nil (a : Option Addr) (cap : Nat) (w : World) :
    Calls Tryd.prog 64 #[.slice a 0 cap, .func (.func 58) #[] #[]] w fun e w' => e = .returned (.int .i64 (-1)) ∧ w' = w := by
  go_enter Tryd.func64, Tryd.ntmps64
  go_wp2
  go_loopw [8, 5] (fun i _ wr => i = .int .i64 0 ∧ wr = w) (fun _ _ _ => 0)
  case atStart => exact ⟨rfl, rfl⟩
  case round =>
    obtain ⟨rfl, rfl⟩ := hrel
    go_wp2
    go_ret
    exact ⟨rfl, rfl⟩
theorem firstS_any (L : List Bs) : decide (0 ≤ firstS L) = L.any speI := by
  unfold firstS
  cases h : L.findIdx? speI with
  | none =>
    rw [List.findIdx?_eq_none_iff] at h
    have : L.any speI = false := by
      rw [Bool.eq_false_iff]
      intro h1
      obtain ⟨x, hx, e⟩ := List.any_eq_true.1 h1
      rw [h x hx] at e
      cases e
    rw [this]; decide
  | some k =>
    rw [List.findIdx?_eq_some_iff_getElem] at h
    obtain ⟨hk, h1, _⟩ := h
    have : L.any speI = true := List.any_eq_true.2 ⟨_, List.getElem_mem hk, h1⟩
    rw [this]
    exact decide_eq_true (Int.natCast_nonneg k)
theorem containsFunc_any (L : List Bs) (v : Value) (w : World) (hl : L.length ≤ 100000) (h : Strs w v L) :
    Calls Tryd.prog 57 #[v, .func (.func 58) #[] #[]] w fun e w' => e = .returned (.bool (L.any speI)) ∧ w' = w := by
  have k : ∀ w', w' = w → Calls Tryd.prog 64 #[v, .func (.func 58) #[] #[]] w' fun e w1 => e = .returned (.int .i64 (firstS L)) ∧ w1 = w' := by
    rintro w' rfl
    rcases h with ⟨a, c, rfl, rfl⟩ | ⟨b, off, cap, rfl, h3, h4⟩
    · exact indexFunc_nil a c w'
    · exact indexFunc_some L b off cap w' hl h4
  obtain ⟨a, n, c, rfl⟩ := h.form3
  have e := firstS_any L
  generalize firstS L = f at k e
  generalize L.any speI = r at e ⊢
  clear h hl
  go_enter Tryd.func57, Tryd.ntmps57
  go_wp2_with fail
  refine (k _ rfl).mono ?_
  rintro e1 w1 ⟨rfl, rfl⟩
  have E := hide' e
  clear e
  go_wp2
  go_ret
  exact ⟨by rw [← E.out]; rfl, rfl⟩
end Go.Proofs.YtkmedgdpcifnoaaDoor
