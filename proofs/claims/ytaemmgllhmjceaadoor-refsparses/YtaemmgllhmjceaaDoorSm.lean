/- The contract of the law's same, at two lists of the same parts. -/
import Derived.Test.YtaemmgllhmjceaaDoorAlive
import Derived.Test.YtaemmgllhmjceaaDoorLists
namespace Go.Proofs.YtaemmgllhmjceaaDoor
open Go.RowKit

theorem flatP_at : ∀ (L : List Px) (k : Nat) (x : Px), L[k]? = some x → (flatP L)[k * 4]? = some (.int .i64 x.1.kind) ∧ (flatP L)[k * 4 + 1]? = some (.string (mk x.1.text)) ∧ (flatP L)[k * 4 + 2]? = some (.string (mk x.1.name)) ∧ (flatP L)[k * 4 + 3]? = some x.2
  | [], k, x, h => by simp at h
  | y :: r, 0, x, h => by
    obtain rfl : y = x := by simpa using h
    exact ⟨rfl, rfl, rfl, rfl⟩
  | y :: r, k + 1, x, h => by
    have e : flatP (y :: r) = ptC y ++ flatP r := rfl
    have hl : (ptC y).length = 4 := rfl
    have ih := flatP_at r k x (by simpa using h)
    rw [e, List.getElem?_append_right (by omega), List.getElem?_append_right (by omega), List.getElem?_append_right (by omega), List.getElem?_append_right (by omega), hl,
      show (k + 1) * 4 - 4 = k * 4 by omega, show (k + 1) * 4 + 1 - 4 = k * 4 + 1 by omega, show (k + 1) * 4 + 2 - 4 = k * 4 + 2 by omega, show (k + 1) * 4 + 3 - 4 = k * 4 + 3 by omega]
    exact ih
theorem argv_strs {w : World} {B : Nat} {x : Px} (h : ArgV w B x) : Strs w x.2 (x.1.args.map mk) := by
  refine Strs.of_row (base := B) ?_
  unfold ArgV at h
  rw [List.length_map, List.map_map]
  exact h
/-- Same, at two lists that are one: nothing is written -/
theorem same_q (L : List ByteArray) (v v' : Value) (w : World) (h : Strs w v L) (h' : Strs w v' L) :
    Calls Tryd.prog 17 #[v, v'] w fun e w' => e = .returned (.bool true) ∧ ∃ q, w' = w.drewN q := by
  have hl := h.len
  rcases h with ⟨rfl, rfl⟩ | ⟨b, off, cap, rfl, h1, h2, h3, h4⟩
  · rcases h' with ⟨rfl, _⟩ | ⟨b', off', cap', rfl, h1', h2', h3', h4'⟩
    · exact same_nil w none none 0 0
    · exact same_nil w none _ 0 cap'
  · rcases h' with ⟨rfl, rfl⟩ | ⟨b', off', cap', rfl, h1', h2', h3', h4'⟩
    · exact same_nil w _ none cap 0
    · exact same_some L b off cap b' off' cap' w hl h4 h4'
theorem drewn_two (w : World) (a b : Nat) : (w.drewN a).drewN b = w.drewN (a + b) := by simp [World.drewN, Nat.add_assoc]
theorem str_self (a : ByteArray) : (a.toList != a.toList) = false := by simp
set_option maxRecDepth 100000 in
set_option maxHeartbeats 8000000 in
theorem samep_any (L M : List Px) (hLM : L.map Prod.fst = M.map Prod.fst) (hlen : L.length ≤ 1000000) (v u : Value) (B B' : Nat) (w : World) (hv : w.ownsRow B 30 4 v L.length (flatP L)) (hu : w.ownsRow B' 30 4 u M.length (flatP M)) (av : ∀ x ∈ L, ArgV w B x) (au : ∀ x ∈ M, ArgV w B' x) :
    Calls Tryd.prog 12 #[v, u] w fun e w' => e = .returned (.bool true) ∧ Below w.heap.size w w' := by
  have hml : M.length = L.length := by have := congrArg List.length hLM; simpa using this.symm
  by_cases h0 : L.length = 0
  · obtain ⟨a, c, rfl⟩ := own_len hv
    obtain ⟨a', c', rfl⟩ := own_len hu
    rw [hml, h0]
    clear hv hu av au hLM
    go_enter Tryd.func12, Tryd.ntmps12
    go_wp2
    go_loopw [5] (fun i wr => i = .int .i64 0 ∧ wr = w) (fun _ _ => 0)
    case atStart => exact ⟨rfl, rfl⟩
    case round =>
      obtain ⟨rfl, rfl⟩ := hrel
      go_wp2
      go_ret
      exact ⟨rfl, Below.refl _ _⟩
  · obtain ⟨g, cap, rfl, hc1, hc2, hg, _, hcell⟩ := own_cells hv (by omega)
    obtain ⟨g', cap', rfl, hc1', hc2', hg', _, hcell'⟩ := own_cells hu (by omega)
    rw [hml]
    rw [hml] at hc1'
    have hfst : ∀ k, k < L.length → ∃ x y, L[k]? = some x ∧ M[k]? = some y ∧ x.1 = y.1 := fun k hk => by
      refine ⟨L[k], M[k]'(by omega), List.getElem?_eq_getElem hk, List.getElem?_eq_getElem (by omega), ?_⟩
      have := congrArg (·[k]?) hLM
      simp only [List.getElem?_map, List.getElem?_eq_getElem hk, List.getElem?_eq_getElem (show k < M.length by omega), Option.map_some] at this
      exact Option.some.inj this
    have HC := hide' hcell
    have HC' := hide' hcell'
    have HF := hide' hfst
    clear hcell hcell' hfst hv hu hLM hml
    unfold maxLen at hc2 hc2'
    go_enter Tryd.func12, Tryd.ntmps12
    go_wp2
    go_loopw [5] (fun i wr => ∃ k : Nat, k ≤ L.length ∧ i = .int .i64 k ∧ Below w.heap.size w wr) (fun i _ => L.length - (intOf i).toNat)
    case atStart => exact ⟨0, Nat.zero_le _, rfl, Below.refl _ _⟩
    case round =>
      obtain ⟨k, hk, rfl, hB⟩ := hrel
      by_cases hlt : k < L.length
      · obtain ⟨x, y, hx, hy, hxy⟩ := HF.out k hlt
        have hax := av x (List.mem_of_getElem? hx)
        have hay := au y (List.mem_of_getElem? hy)
        obtain ⟨q0, q1, q2, q3⟩ := flatP_at L k x hx
        obtain ⟨r0, r1, r2, r3⟩ := flatP_at M k y hy
        have kS : ∀ W, Below w.heap.size w W → Calls Tryd.prog 17 #[x.2, y.2] W fun e w' => e = .returned (.bool true) ∧ ∃ q, w' = W.drewN q := fun W hb =>
          same_q (x.1.args.map mk) x.2 y.2 W ((argv_strs hax).below hb) (by rw [hxy]; exact (argv_strs hay).below hb)
        have c0 := (hB.cell (p := ⟨g, k * 4, none⟩) hg).trans (HC.out _ _ q0)
        have c1 := (hB.cell (p := ⟨g, k * 4 + 1, none⟩) hg).trans (HC.out _ _ q1)
        have c2 := (hB.cell (p := ⟨g, k * 4 + 2, none⟩) hg).trans (HC.out _ _ q2)
        have c3 := (hB.cell (p := ⟨g, k * 4 + 3, none⟩) hg).trans (HC.out _ _ q3)
        have e0 := (hB.cell (p := ⟨g', k * 4, none⟩) hg').trans (HC'.out _ _ r0)
        have e1 := (hB.cell (p := ⟨g', k * 4 + 1, none⟩) hg').trans (HC'.out _ _ r1)
        have e2 := (hB.cell (p := ⟨g', k * 4 + 2, none⟩) hg').trans (HC'.out _ _ r2)
        have e3 := (hB.cell (p := ⟨g', k * 4 + 3, none⟩) hg').trans (HC'.out _ _ r3)
        rw [← hxy] at e0 e1 e2
        generalize x.1.kind = kd at c0 e0
        generalize mk x.1.text = T at c1 e1
        generalize mk x.1.name = M' at c2 e2
        generalize x.2 = xa at c3 kS
        generalize y.2 = ya at e3 kS
        have dT := str_self T
        have dM := str_self M'
        have dK : (kd != kd) = false := by simp
        have kS' : ∀ q, Calls Tryd.prog 17 #[xa, ya] (wr.drewN q) fun e w' => e = .returned (.bool true) ∧ ∃ n, w' = wr.drewN n := fun q => (kS _ (hB.trans (below_drewn q))).mono fun e w' ⟨h1, q', h2⟩ => ⟨h1, q + q', by rw [h2]; exact drewn_two wr q q'⟩
        have bye : ∀ q, Below w.heap.size w (wr.drewN q) := fun q => hB.trans (below_drewn q)
        clear hx hy hxy hax hay q0 q1 q2 q3 r0 r1 r2 r3
        go_wp2
        go_quiet ((go_at_call 17; exact kS' _))
        go_wp2
        exact ⟨⟨k + 1, by omega, by go_num, bye _⟩, by simp [intOf]; omega⟩
      · go_wp2
        go_ret
        exact ⟨rfl, hB⟩
end Go.Proofs.YtaemmgllhmjceaaDoor
