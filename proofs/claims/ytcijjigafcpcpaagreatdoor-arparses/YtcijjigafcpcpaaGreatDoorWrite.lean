/- The contract of ar.Write. -/
import Derived.Test.YtcijjigafcpcpaaGreatDoorWr
namespace Go.Proofs.YtcijjigafcpcpaaGreatDoor
open Go.RowKit Go.Maps Go.Shelf

/-- behind Write -/
def WAt (ms : List Mv) (w : World) (r : Ending) (w' : World) : Prop :=
  Below w.heap.size w w' ∧ ((wrongR ms = 0 ∧ ∃ v, r = .returned (.tuple #[v, .int .i64 0]) ∧ Dat w' v (archB ms) ∧ OwnB w.heap.size v) ∨ (wrongR ms ≠ 0 ∧ r = .returned (.tuple #[.slice none 0 0, .int .i64 (wrongR ms : Nat)])))
set_option maxRecDepth 100000 in
set_option maxHeartbeats 1000000 in
theorem Write_any (v : Value) (ms : List Mv) (w : World) (h : Mems w v ms) (hf : Fine ms) (hE : Env w) (h11 : 2 ≤ w.heap.size) : Calls Tryz.prog 11 #[v] w fun r w' => WAt ms w r w' := by
  have q := written_any v ms w h hf hE h11
  clear h
  go_enter Tryz.func11, Tryz.ntmps11
  go_wp2_with fail
  refine q.mono ?_
  rintro r w1 ⟨hb, ⟨hz, bv, rfl, hD, hO⟩ | ⟨hz, ev, rfl, hI⟩⟩
  · clear q
    obtain ⟨a, n, c, hv⟩ := hD.form
    subst hv
    have qn := number_any .nilIface 0 w1 (.inl ⟨rfl, rfl⟩) (.inl rfl)
    have HZ := hide' hz
    clear hz
    go_wp2_with fail
    refine qn.mono ?_
    rintro r w2 ⟨rfl, rfl⟩
    go_wp2
    go_ret2
    exact ⟨hb, .inl ⟨HZ.out, _, rfl, hD, hO⟩⟩
  · clear q
    have qn := number_any ev (wrongR ms) w1 hI (by rcases wrong_in ms with h | h | h <;> simp [h])
    have HZ := hide' hz
    clear hz
    obtain ⟨k, hk⟩ : ∃ k, k = wrongR ms := ⟨_, rfl⟩
    rw [← hk] at qn
    have HK := hide' hk
    clear hk
    go_wp2_with fail
    refine qn.mono ?_
    rintro r w2 ⟨rfl, rfl⟩
    go_wp2
    go_ret2
    rw [HK.out]
    exact ⟨hb, .inr ⟨HZ.out, rfl⟩⟩
end Go.Proofs.YtcijjigafcpcpaaGreatDoor
