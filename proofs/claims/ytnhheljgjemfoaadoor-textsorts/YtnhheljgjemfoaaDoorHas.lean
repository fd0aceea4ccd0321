/- The contract of anvilref1.Has at a text that stands in the list. -/
import Derived.Test.YtnhheljgjemfoaaDoorLent
namespace Go.Proofs.YtnhheljgjemfoaaDoor
open Go.RowKit Go.Shelf

theorem ba_of (x : ByteArray) : (⟨x.data.toList.toArray⟩ : ByteArray) = x := by obtain ⟨⟨a⟩⟩ := x; rfl

set_option maxHeartbeats 400000 in
theorem has_some (L : List ByteArray) (x : ByteArray) (b off cap : Nat) (w : World) (hl : L.length ≤ 100000) (hc : ∀ j, j < L.length → w.cell? ⟨b, off + j, none⟩ = some (.string (L.getD j ⟨#[]⟩))) (hx : x ∈ L) :
    Calls Tryd.prog 11 #[.slice (some ⟨b, off, none⟩) L.length cap, .string x] w fun e w' => e = .returned (.bool true) ∧ w' = w := by
  have HC := hide' hc
  clear hc
  go_enter Tryd.func11, Tryd.ntmps11
  go_wp2
  go_loop [5] (fun i => ∃ k : Nat, k ≤ L.length ∧ i = .int .i64 k ∧ Hid (x ∈ L.drop k)) (fun i => L.length - (intOf i).toNat)
  case atStart => exact ⟨0, Nat.zero_le _, rfl, hx⟩
  case round =>
    obtain ⟨k, hk, rfl, HX⟩ := hrel
    by_cases hlt : k < L.length
    · have c1 := HC.out k hlt
      have hd : L.drop k = L.getD k ⟨#[]⟩ :: L.drop (k + 1) := by
        rw [List.drop_eq_getElem_cons hlt, List.getD_eq_getElem?_getD, List.getElem?_eq_getElem hlt]; rfl
      by_cases he : L.getD k ⟨#[]⟩ = x
      · rw [he] at c1
        clear HX hd he
        go_wp2
        go_ret
        exact ⟨rfl, rfl⟩
      · have HX' : Hid (x ∈ L.drop (k + 1)) := by
          have := HX.out
          rw [hd] at this
          rcases List.mem_cons.1 this with e | h
          · exact absurd e.symm he
          · exact h
        have hq : ((L.getD k ⟨#[]⟩).toList == x.toList) = false := by
          rw [Lib.toList_data, Lib.toList_data]
          refine beq_eq_false_iff_ne.2 fun e => he ?_
          rw [← ba_of (L.getD k ⟨#[]⟩), ← ba_of x, e]
        generalize L.getD k ⟨#[]⟩ = y at c1 hq
        clear HX hd he
        go_wp2
        exact ⟨⟨k + 1, by omega, by go_num, HX'⟩, by simp [intOf]; omega⟩
    · have : x ∈ L.drop k := HX.out
      rw [List.drop_eq_nil_of_le (by omega)] at this
      cases this

theorem has_any (L : List ByteArray) (x : ByteArray) (v : Value) (w : World) (hl : L.length ≤ 100000) (h : Strz w v L) (hx : x ∈ L) :
    Calls Tryd.prog 11 #[v, .string x] w fun e w' => e = .returned (.bool true) ∧ w' = w := by
  rcases h.form with ⟨rfl, _⟩ | ⟨_, b, off, cap, rfl, h3, h4⟩
  · cases hx
  · exact has_some L x b off cap w hl h4 hx
end Go.Proofs.YtnhheljgjemfoaaDoor
