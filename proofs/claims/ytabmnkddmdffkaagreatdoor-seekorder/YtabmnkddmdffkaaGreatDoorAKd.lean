/- What the keys of a map are. -/
import Derived.Test.YtabmnkddmdffkaaGreatDoorAZm
import Derived.Sort.KeysCollected
import Derived.Sort.MapsRangeIn
import Derived.RangeFuncStops
namespace Go.Proofs.YtabmnkddmdffkaaGreatDoor
open Go.RowKit Go.Maps
def ahead (p : Bs) : Bs := if p = [] then [] else p ++ [47]
def kidOf (p q : Bs) : Option Bs := if (ahead p).isPrefixOf q && !((q.drop (ahead p).length).contains 47) then some (q.drop (ahead p).length) else none
def kidNames {α : Type} (L : List (Bs × α)) (p : Bs) : List Bs := (L.map (·.1)).filterMap (kidOf p)

theorem datum_has {H : Type} (L : List (Bs × Nat)) (x : Bs) (h : Maps.has (datum L : DataW H) (.string x) = true) : ∃ b, (x, b) ∈ L := by
  unfold datum at h
  rw [has_eq, List.any_map, List.any_eq_true] at h
  obtain ⟨e, he, hs⟩ := h
  have : e.1 = x := by simpa [Lit.sameKey] using hs
  exact ⟨e.2, by rw [← this]; exact he⟩
theorem datum_keys {H : Type} (L : List (Bs × Nat)) : strKeys (datum L : DataW H) = L.map (·.1) := by
  show (L.map (fun e => ((.string e.1, .lit (.int .u64 e.2)) : Lit × DataW H))).map (fun p => strOf p.1) = _
  rw [List.map_map]
  rfl

end Go.Proofs.YtabmnkddmdffkaaGreatDoor
