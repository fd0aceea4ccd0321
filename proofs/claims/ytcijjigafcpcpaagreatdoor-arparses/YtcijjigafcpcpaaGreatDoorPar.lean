/- The contract of ar.Parse. -/
import Derived.Test.YtcijjigafcpcpaaGreatDoorPd
import Derived.Test.YtcijjigafcpcpaaGreatDoorNil
namespace Go.Proofs.YtcijjigafcpcpaaGreatDoor
open Go.RowKit Go.Maps Go.Shelf

/-- an archive's list in memory of its own, or the number of what is wrong -/
def PsR (B : Nat) (bs : Bs) (w' : World) (r : Ending) : Prop :=
  (∃ v ms, r = .returned (.tuple #[v, .int .i64 0]) ∧ MsAt w' B v ms ∧ wrongR ms = 0 ∧ archB ms = bs ∧ scanR bs = some (ms.map tE)) ∨
  (∃ k : Nat, r = .returned (.tuple #[.slice none 0 0, .int .i64 k]) ∧ (k = 2 ∧ 65536 < bs.length ∨ k = 20 ∧ ¬ 65536 < bs.length) ∧ ∀ ms, wrongR ms = 0 → archB ms ≠ bs)
set_option maxRecDepth 100000 in
set_option maxHeartbeats 1000000 in
theorem Parse_bsl (a : Addr) (n cap : Nat) (bs : Bs) (w : World) (hR : Rds w (.slice (some a) n cap) bs) (hn : n = bs.length) (hcap : n ≤ cap) (hl : n ≤ 100000) (hE : Env w) (hS : EvS w) (hM : Mx w) (h3 : 3 < w.heap.size) :
    Calls Tryz.prog 15 #[.slice (some a) n cap] w fun r w' => Below w.heap.size w w' ∧ PsR w.heap.size bs w' r := by
  have q := parsed_bsl a n cap bs w hR hn hcap hl hE hS hM h3
  clear hn hR hE hS hM
  go_enter Tryz.func15, Tryz.ntmps15
  go_wp2_with fail
  refine q.mono ?_
  rintro r w1 ⟨hb, hp⟩
  clear q
  rcases hp with ⟨v, ms, rfl, hms, h1, h2, h4⟩ | ⟨e, k, rfl, hk, he, hno⟩
  · have qn := number_any .nilIface 0 w1 (.inl ⟨rfl, rfl⟩) (by simp)
    obtain ⟨va, vc, hv⟩ := hms.mems.len
    subst hv
    have HK := hide' (And.intro hms (And.intro h1 (And.intro h2 h4)))
    clear hms h1 h2 h4
    dsimp only
    go_wp2_with fail
    refine qn.mono ?_
    rintro r w2 ⟨rfl, rfl⟩
    dsimp only
    go_wp2_with fail
    go_ret2
    exact ⟨hb, .inl ⟨_, ms, rfl, HK.out.1, HK.out.2.1, HK.out.2.2.1, HK.out.2.2.2⟩⟩
  · have qn := number_any e k w1 he (by rcases hk with ⟨rfl, _⟩ | ⟨rfl, _⟩ <;> simp)
    have HK := hide' (And.intro hk hno)
    clear hk hno he
    dsimp only
    go_wp2_with fail
    refine qn.mono ?_
    rintro r w2 ⟨rfl, rfl⟩
    dsimp only
    go_wp2_with fail
    go_ret2
    exact ⟨hb, .inr ⟨k, rfl, HK.out.1, HK.out.2⟩⟩
theorem arch_ne (ms : List Mv) : archB ms ≠ [] := by
  unfold archB
  simp [magicB]
theorem Parse_any (v : Value) (bs : Bs) (w : World) (h : Tbs w v bs) (hl : bs.length ≤ 100000) (hE : Env w) (hS : EvS w) (hM : Mx w) (h3 : 3 < w.heap.size) : Calls Tryz.prog 15 #[v] w fun r w' => Below w.heap.size w w' ∧ PsR w.heap.size bs w' r := by
  rcases h with ⟨rfl, rfl⟩ | ⟨a, n, cap, rfl, hn, hc, hr⟩
  · refine (Parse_nil w).mono ?_
    rintro r w' ⟨rfl, hb⟩
    exact ⟨hb, .inr ⟨20, rfl, .inr ⟨rfl, by simp⟩, fun ms _ => arch_ne ms⟩⟩
  · exact Parse_bsl a n cap bs w hr hn hc (by omega) hE hS hM h3
theorem Dat.tbs {w : World} {v : Value} {bs : Bs} (h : Dat w v bs) : Tbs w v bs := by
  have hr := h.rds
  rcases h with ⟨rfl, rfl⟩ | ⟨g, cap, cur, rfl, h1, h2, h3, h4, h5⟩
  · exact .inl ⟨rfl, rfl⟩
  · exact .inr ⟨_, _, _, rfl, rfl, h2, hr⟩
end Go.Proofs.YtcijjigafcpcpaaGreatDoor
