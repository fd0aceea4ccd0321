/- What Put does to a list of members. -/
import Derived.Test.YtcijjigafcpcpaaGreatDoorPut
namespace Go.Proofs.YtcijjigafcpcpaaGreatDoor
open Go.RowKit Go.Maps

theorem findN_map {ms ns : List Mv} (h : ms.map toE = ns.map toE) (b : Bs) : findN ms b = findN ns b := by
  have e : ∀ l : List Mv, findN l b = (l.map toE).findIdx? (fun e => e.1 == b) := fun l => by
    unfold findN
    rw [List.findIdx?_map]
    rfl
  rw [e, e, h]
theorem placeR_map {ms ns : List Mv} (h : ms.map toE = ns.map toE) (b : Bs) : placeR ms b = placeR ns b := by
  unfold placeR
  rw [findN_map h]
theorem putM_map {ms ns : List Mv} (h : ms.map toE = ns.map toE) (m : Mv) : (putM ms m).map toE = (putM ns m).map toE := by
  unfold putM
  rw [findN_map h]
  cases findN ns m.name with
  | none => rw [List.map_append, List.map_append, h]
  | some k => rw [List.map_set, List.map_set, h]
theorem put_at (ns : List Mv) (m : Mv) : ∃ k : Nat, placeR (putM ns m) m.name = k ∧ (putM ns m)[k]? = some m ∧ (if placeR ns m.name < 0 then (ns.length : Int) else placeR ns m.name) = k := by
  unfold putM
  cases hf : findN ns m.name with
  | none =>
    have hno : ∀ x ∈ ns, ¬ x.name = m.name := fun x hx => by
      unfold findN at hf
      rw [List.findIdx?_eq_none_iff] at hf
      simpa using hf x hx
    refine ⟨ns.length, ?_, by simp, ?_⟩
    · have := findN_some (ms := ns ++ [m]) (b := m.name) (k := ns.length) (m := m) (by simp) rfl (fun x hx => by rw [List.take_left] at hx; exact hno x hx)
      unfold placeR
      rw [this]
    · have : placeR ns m.name = -1 := by unfold placeR; rw [hf]
      rw [this]
      rfl
  | some k =>
    obtain ⟨y, hy, _, hno⟩ := findN_lt hf
    have hkl : k < ns.length := (List.getElem?_eq_some_iff.1 hy).1
    have hp : placeR ns m.name = k := by unfold placeR; rw [hf]
    refine ⟨k, ?_, List.getElem?_set_self hkl, ?_⟩
    · have := findN_some (ms := ns.set k m) (b := m.name) (k := k) (m := m) (List.getElem?_set_self hkl) rfl (fun x hx => by
        refine hno x ?_
        rw [List.take_set, List.set_eq_of_length_le (by rw [List.length_take]; omega)] at hx
        exact hx)
      unfold placeR
      rw [this]
    · rw [hp, if_neg (by omega)]
theorem len_sum {ns : List Mv} (f : Mv → Nat) (hf : ∀ m, 1 ≤ f m) : ns.length ≤ sumM f ns := by
  induction ns with
  | nil => simp [sumM]
  | cons n r ih => have := hf n; simp only [List.length_cons, sumM]; omega
theorem map_at {ms : List Mv} {l : List Mv} {k : Nat} {m : Mv} (h : ms.map toE = l.map toE) (hk : l[k]? = some m) : ∃ y, ms[k]? = some y ∧ toE y = toE m := by
  have e := congrArg (·[k]?) h
  simp only [List.getElem?_map, hk, Option.map_some] at e
  cases hy : ms[k]? with
  | none => rw [hy] at e; simp at e
  | some y => rw [hy] at e; exact ⟨y, rfl, by simpa using e⟩
end Go.Proofs.YtcijjigafcpcpaaGreatDoor
