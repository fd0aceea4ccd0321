/- The contract of anvillaw7.big. -/
import Derived.Test.YtcijjigafcpcpaaGreatDoorOwn2
import Derived.Deep.QuietTactic
import Derived.BigQuiet
import Derived.Deep.Cut
namespace Go.Proofs.YtcijjigafcpcpaaGreatDoor
open Go.RowKit Go.Maps

def wtB (m : Mv) : Nat := 1 + m.data.length + m.name.length
def BgR (ms : List Mv) (r : Ending) : Prop := ∃ b, r = .returned (.bool b) ∧ (b = false → sumM wtB ms ≤ 100000)
set_option maxRecDepth 100000 in
set_option maxHeartbeats 4000000 in
theorem big_row (g o cap : Nat) (ms : List Mv) (w : World) (h : MRow w g o ms) (hr : ∀ m ∈ ms, Rds w m.dv m.data) (hl : ms.length ≤ 140737488355328) (hs : ∀ m ∈ ms, m.data.length ≤ 140737488355328 ∧ m.name.length ≤ 140737488355328) :
    Calls Tryz.prog 9 #[.slice (some ⟨g, o, none⟩) ms.length cap] w fun r w' => BgR ms r ∧ Below w.heap.size w w' := by
  go_enter Tryz.func9, Tryz.ntmps9
  go_wp2
  go_loopw [3, 4] (fun n i wr => ∃ k s : Nat, k ≤ ms.length ∧ n = .int .i64 s ∧ i = .int .i64 k ∧ s ≤ 562949953421312 ∧ s = sumM wtB (ms.take k) ∧ Below w.heap.size w wr) (fun _ i _ => ms.length - (intOf i).toNat)
  case atStart => exact ⟨0, 0, by omega, rfl, rfl, by omega, rfl, Below.refl _ _⟩
  case round =>
    obtain ⟨k, s, hk, rfl, rfl, hlim, hsm, hB⟩ := hrel
    by_cases hkl : k < ms.length
    · have k1 : (k : Int) < ms.length := by omega
      by_cases hb : s ≤ 100000
      · obtain ⟨m, hm⟩ : ∃ m, ms[k]? = some m := ⟨_, List.getElem?_eq_getElem hkl⟩
        have hst : s + 1 + m.data.length + m.name.length = sumM wtB (ms.take (k + 1)) := by rw [sumM_take wtB hm, hsm]; unfold wtB; omega
        have hR := h.below hB
        have d0 := hR.c0 k m hm
        have d2 := hR.c2 k m hm
        obtain ⟨da, dc, hdv⟩ := (hr m (List.mem_of_getElem? hm)).len
        rw [hdv] at d2
        obtain ⟨l1, l2⟩ := hs m (List.mem_of_getElem? hm)
        have hz : (mk m.name).size = m.name.length := mk_size _
        have k2 : (s : Int) ≤ 100000 := by omega
        generalize m.name.length = pl at *
        generalize m.data.length = dl at *
        generalize mk m.name = P at *
        clear hR h hr hs hm hsm
        go_wp2
        go_quiet (fail)
        go_wp2
        exact ⟨⟨k + 1, s + 1 + dl + pl, by omega, by simp, by simp, by omega, hst, hB.trans (below_drewn _)⟩, by simp [intOf]; omega⟩
      · have k2 : ¬ (s : Int) ≤ 100000 := by omega
        have k3 : 100000 < (s : Int) := by omega
        go_wp2
        go_ret
        exact ⟨⟨_, rfl, fun h => by first | (cases h; done) | (have := of_decide_eq_false h; omega)⟩, hB⟩
    · obtain rfl : k = ms.length := by omega
      rw [List.take_length] at hsm
      have k1 : ¬ (ms.length : Int) < ms.length := by omega
      by_cases hb : s ≤ 100000
      · have k3 : ¬ 100000 < (s : Int) := by omega
        go_wp2
        go_ret
        exact ⟨⟨_, rfl, fun _ => by omega⟩, hB⟩
      · have k3 : 100000 < (s : Int) := by omega
        go_wp2
        go_ret
        exact ⟨⟨_, rfl, fun h => by first | (cases h; done) | (have := of_decide_eq_false h; omega)⟩, hB⟩
theorem big_nil (a : Option Addr) (c : Nat) (w : World) : Calls Tryz.prog 9 #[.slice a 0 c] w fun r w' => r = .returned (.bool false) ∧ w' = w := by
  go_enter Tryz.func9, Tryz.ntmps9
  go_wp2
  go_loopw [3, 4] (fun n i wr => n = .int .i64 0 ∧ i = .int .i64 0 ∧ wr = w) (fun _ _ _ => 0)
  case atStart => exact ⟨rfl, rfl, rfl⟩
  case round =>
    obtain ⟨rfl, rfl, rfl⟩ := hrel
    go_wp2
    go_ret
    exact ⟨rfl, rfl⟩
theorem big_any (v : Value) (ms : List Mv) (w : World) (h : Mems w v ms) (hl : ms.length ≤ 140737488355328) (hs : ∀ m ∈ ms, m.data.length ≤ 140737488355328 ∧ m.name.length ≤ 140737488355328) :
    Calls Tryz.prog 9 #[v] w fun r w' => BgR ms r ∧ Below w.heap.size w w' := by
  rcases h with ⟨⟨a, c, rfl⟩, rfl⟩ | ⟨g, o, cap, rfl, h0, h1, h2⟩
  · exact (big_nil a c w).mono fun r w' ⟨hr, hw⟩ => ⟨⟨false, hr, fun _ => by simp [sumM]⟩, by rw [hw]; exact Below.refl _ _⟩
  · exact big_row g o cap ms w h1 h2 hl hs
end Go.Proofs.YtcijjigafcpcpaaGreatDoor
