/- The contracts of ar.own, ar.Find, anvilref5.Member, anvillaw7.big. -/
import Derived.Test.YtcijjigafcpcpaaGreatDoorHead
import Derived.Test.YtcijjigafcpcpaaGreatDoorFloat
namespace Go.Proofs.YtcijjigafcpcpaaGreatDoor
open Go.RowKit Go.Maps Go.Shelf

/-- the place of the first member of a name -/
def findN (ms : List Mv) (b : Bs) : Option Nat := ms.findIdx? (fun m => m.name == b)
def placeR (ms : List Mv) (b : Bs) : Int := match findN ms b with | some i => (i : Nat) | none => -1
theorem findN_none {ms : List Mv} {b : Bs} (h : ∀ m ∈ ms, ¬ m.name = b) : findN ms b = none := by
  unfold findN
  rw [List.findIdx?_eq_none_iff]
  intro m hm
  exact beq_eq_false_iff_ne.2 (h m hm)
theorem findN_some {ms : List Mv} {b : Bs} {k : Nat} {m : Mv} (hk : ms[k]? = some m) (he : m.name = b) (hno : ∀ x ∈ ms.take k, ¬ x.name = b) : findN ms b = some k := by
  unfold findN
  have hl : k < ms.length := (List.getElem?_eq_some_iff.1 hk).1
  have he' : ms[k] = m := (List.getElem?_eq_some_iff.1 hk).2
  rw [List.findIdx?_eq_some_iff_getElem]
  refine ⟨hl, by rw [he']; exact beq_iff_eq.2 he, fun j hj => ?_⟩
  have : ms[j] ∈ ms.take k := by
    rw [List.mem_take_iff_getElem]
    exact ⟨j, by omega, rfl⟩
  simpa using hno _ this
theorem findN_lt {ms : List Mv} {b : Bs} {k : Nat} (h : findN ms b = some k) : ∃ m, ms[k]? = some m ∧ m.name = b ∧ ∀ x ∈ ms.take k, ¬ x.name = b := by
  unfold findN at h
  rw [List.findIdx?_eq_some_iff_getElem] at h
  obtain ⟨hl, h1, h2⟩ := h
  refine ⟨ms[k], List.getElem?_eq_getElem hl, by simpa using h1, fun x hx => ?_⟩
  rw [List.mem_take_iff_getElem] at hx
  obtain ⟨j, hj, rfl⟩ := hx
  have := h2 j (by omega)
  simpa using this
set_option maxRecDepth 100000 in
set_option maxHeartbeats 1000000 in
theorem Find_row (g o cap : Nat) (ms : List Mv) (b : Bs) (w : World) (h : MRow w g o ms) (hr : ∀ m ∈ ms, Rds w m.dv m.data) (hl : ms.length ≤ 1099511627776) :
    Calls Tryz.prog 18 #[.slice (some ⟨g, o, none⟩) ms.length cap, .string (mk b)] w fun r w' => r = .returned (.int .i64 (placeR ms b)) ∧ Below w.heap.size w w' := by
  go_enter Tryz.func18, Tryz.ntmps18
  go_wp2
  go_loopw [5, 6, 9] (fun _ _ i wr => ∃ k : Nat, k ≤ ms.length ∧ i = .int .i64 k ∧ (∀ x ∈ ms.take k, ¬ x.name = b) ∧ Below w.heap.size w wr) (fun _ _ i _ => ms.length - (intOf i).toNat)
  case atStart => exact ⟨0, by omega, rfl, fun x hx => (by simp at hx), Below.refl _ _⟩
  case round =>
    obtain ⟨k, hk, rfl, hno, hB⟩ := hrel
    by_cases hkl : k < ms.length
    · have k1 : (k : Int) < ms.length := by omega
      obtain ⟨m, hm⟩ : ∃ m, ms[k]? = some m := ⟨_, List.getElem?_eq_getElem hkl⟩
      have hR := h.below hB
      have d0 := hR.c0 k m hm
      have d1 := hR.c1 k m hm
      have d2 := hR.c2 k m hm
      obtain ⟨da, dc, hdv⟩ := (hr m (List.mem_of_getElem? hm)).len
      rw [hdv] at d2
      have hb1 := fun o => hB.alloc hB.size o
      by_cases he : m.name = b
      · have hf : placeR ms b = (k : Nat) := by unfold placeR; rw [findN_some hm he hno]
        have HF := hide' hf
        rw [he] at d0
        clear h hr hR hno hm hf hB
        go_wp2
        go_ret
        rw [HF.out]
        exact ⟨rfl, hb1 _⟩
      · have hq : (m.name == b) = false := beq_eq_false_iff_ne.2 he
        have hno2 : ∀ x ∈ ms.take (k + 1), ¬ x.name = b := fun x hx => by
          rw [List.take_add_one, hm] at hx
          rcases List.mem_append.1 hx with hx | hx
          · exact hno x hx
          · obtain rfl : x = m := by simpa using hx
            exact he
        have HN := hide' hno2
        clear h hr hR hno hno2 hm hB
        go_wp2
        exact ⟨⟨k + 1, by omega, by simp, HN.out, hb1 _⟩, by simp [intOf]; omega⟩
    · obtain rfl : k = ms.length := by omega
      have k1 : ¬ (ms.length : Int) < ms.length := by omega
      rw [List.take_length] at hno
      have hf : placeR ms b = -1 := by unfold placeR; rw [findN_none hno]
      have HF := hide' hf
      clear h hr hno hf
      go_wp2
      go_ret
      rw [HF.out]
      exact ⟨rfl, hB⟩
set_option maxRecDepth 100000 in
theorem Find_nil (a : Option Addr) (c : Nat) (b : Bs) (w : World) : Calls Tryz.prog 18 #[.slice a 0 c, .string (mk b)] w fun r w' => r = .returned (.int .i64 (-1)) ∧ w' = w := by
  go_enter Tryz.func18, Tryz.ntmps18
  go_wp2
  go_loopw [5, 6, 9] (fun _ _ i wr => i = .int .i64 0 ∧ wr = w) (fun _ _ _ _ => 0)
  case atStart => exact ⟨rfl, rfl⟩
  case round =>
    obtain ⟨rfl, rfl⟩ := hrel
    go_wp2
    go_ret
    exact ⟨rfl, rfl⟩
theorem Find_any (v : Value) (ms : List Mv) (b : Bs) (w : World) (h : Mems w v ms) (hl : ms.length ≤ 1099511627776) : Calls Tryz.prog 18 #[v, .string (mk b)] w fun r w' => r = .returned (.int .i64 (placeR ms b)) ∧ Below w.heap.size w w' := by
  rcases h with ⟨⟨a, c, rfl⟩, rfl⟩ | ⟨g, o, cap, rfl, h0, h1, h2⟩
  · exact (Find_nil a c b w).mono fun r w' ⟨hr, hw⟩ => ⟨hr, by rw [hw]; exact Below.refl _ _⟩
  · exact Find_row g o cap ms b w h1 h2 hl
set_option maxRecDepth 100000 in
set_option maxHeartbeats 1000000 in
theorem Member_row (g o cap : Nat) (ms : List Mv) (b : Bs) (w : World) (h : MRow w g o ms) (hl : ms.length ≤ 1099511627776) :
    Calls Tryz.prog 20 #[.slice (some ⟨g, o, none⟩) ms.length cap, .string (mk b)] w fun r w' => r = .returned (.int .i64 (placeR ms b)) ∧ w' = w := by
  go_enter Tryz.func20, Tryz.ntmps20
  go_wp2
  go_loopw [5] (fun i wr => ∃ k : Nat, k ≤ ms.length ∧ i = .int .i64 k ∧ (∀ x ∈ ms.take k, ¬ x.name = b) ∧ wr = w) (fun i _ => ms.length - (intOf i).toNat)
  case atStart => exact ⟨0, by omega, rfl, fun x hx => (by simp at hx), rfl⟩
  case round =>
    obtain ⟨k, hk, rfl, hno, rfl⟩ := hrel
    by_cases hkl : k < ms.length
    · have k1 : (k : Int) < ms.length := by omega
      obtain ⟨m, hm⟩ : ∃ m, ms[k]? = some m := ⟨_, List.getElem?_eq_getElem hkl⟩
      have d0 := h.c0 k m hm
      by_cases he : m.name = b
      · have hf : placeR ms b = (k : Nat) := by unfold placeR; rw [findN_some hm he hno]
        have HF := hide' hf
        rw [he] at d0
        clear h hno hm hf
        go_wp2
        go_ret
        rw [HF.out]
        exact ⟨rfl, rfl⟩
      · have hq : (m.name == b) = false := beq_eq_false_iff_ne.2 he
        have hno2 : ∀ x ∈ ms.take (k + 1), ¬ x.name = b := fun x hx => by
          rw [List.take_add_one, hm] at hx
          rcases List.mem_append.1 hx with hx | hx
          · exact hno x hx
          · obtain rfl : x = m := by simpa using hx
            exact he
        have HN := hide' hno2
        clear h hno hno2 hm
        go_wp2
        exact ⟨⟨k + 1, by omega, by simp, HN.out, trivial⟩, by simp [intOf]; omega⟩
    · obtain rfl : k = ms.length := by omega
      have k1 : ¬ (ms.length : Int) < ms.length := by omega
      rw [List.take_length] at hno
      have hf : placeR ms b = -1 := by unfold placeR; rw [findN_none hno]
      have HF := hide' hf
      clear h hno hf
      go_wp2
      go_ret
      rw [HF.out]
      exact ⟨rfl, rfl⟩
set_option maxRecDepth 100000 in
theorem Member_any (v : Value) (ms : List Mv) (b : Bs) (w : World) (h : Mems w v ms) (hl : ms.length ≤ 1099511627776) : Calls Tryz.prog 20 #[v, .string (mk b)] w fun r w' => r = .returned (.int .i64 (placeR ms b)) ∧ w' = w := by
  rcases h with ⟨⟨a, c, rfl⟩, rfl⟩ | ⟨g, o, cap, rfl, h0, h1, h2⟩
  · go_enter Tryz.func20, Tryz.ntmps20
    go_wp2
    go_loopw [5] (fun i wr => i = .int .i64 0 ∧ wr = w) (fun _ _ => 0)
    case atStart => exact ⟨rfl, rfl⟩
    case round =>
      obtain ⟨rfl, rfl⟩ := hrel
      go_wp2
      go_ret
      exact ⟨rfl, rfl⟩
  · exact Member_row g o cap ms b w h1 hl
end Go.Proofs.YtcijjigafcpcpaaGreatDoor
