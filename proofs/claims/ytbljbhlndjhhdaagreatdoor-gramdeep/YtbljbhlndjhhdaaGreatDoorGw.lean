/- Rows of words and redirections of a command that is being built. -/
import Derived.Test.YtbljbhlndjhhdaaGreatDoorGao
import Derived.Test.YtbljbhlndjhhdaaGreatDoorGd
namespace Go.Proofs.YtbljbhlndjhhdaaGreatDoor
open Go.RowKit

theorem infoStr : (Tryz.prog.info? 9).map (fun i : TypeInfo => (i.zero, i.size, i.bytes)) = some (some (.string ⟨#[]⟩), 1, 16) := by kernel_rfl
theorem infoRed : (Tryz.prog.info? 65).map (fun i : TypeInfo => (i.zero, i.size, i.bytes)) = some (some (.agg #[.string ⟨#[]⟩, .string ⟨#[]⟩]), 2, 32) := by kernel_rfl
/-- a row is grown by one thing -/
theorem RowS.push {w w' : World} {S : Nat → Prop} {T sz n g cap : Nat} {kv : Value} {xs news : List Value} (h : RowS w S T sz kv n xs) (hS0 : S w.heap.size)
    (ho : w'.ownsRow 0 T sz (.slice (some ⟨g, 0, none⟩) (n + 1) cap) (n + 1) (xs ++ news)) (hat : kv.ownBlock = some g ∨ g = w.heap.size) : RowS w' S T sz (.slice (some ⟨g, 0, none⟩) (n + 1) cap) (n + 1) (xs ++ news) :=
  RowS.of_own (B := 0) ho (Nat.succ_pos n) fun g' e => by
    have e : g = g' := Option.some.inj e
    rcases hat with h3 | h3
    · rw [← e]; exact (h.blk g h3).1
    · rw [← e, h3]; exact hS0
/-- a command whose redirections lie apart -/
theorem with_redirs {w : World} {S : Nat → Prop} {k : Nat} {nt : Bool} {av wv rv kv mv r0 : Value} {ag ws : List Bs} {rs : List (Bs × Bs)} {ks : List Cd} {ar : List (List Bs × Cd)} (h : CdAt w S [.int .i64 k, .bool nt, av, wv, r0, kv, mv] (.mk k nt ag ws [] ks ar)) (hr : RedsS w S rv rs) : CdAt w S [.int .i64 k, .bool nt, av, wv, rv, kv, mv] (.mk k nt ag ws rs ks ar) := by
  cases h with
  | intro _ _ _ _ _ _ _ _ _ _ _ _ kc ac h1 h2 h3 h4 h5 h6 h7 h8 h9 h10 => exact .intro k nt ag ws rs ks ar av wv rv kv mv kc ac h1 h2 hr h4 h5 h6 h7 h8 h9 h10
theorem cd_head {w : World} {S : Nat → Prop} {k k' : Nat} {nt nt' : Bool} {v2 v3 v4 v5 v6 : Value} {ag ws : List Bs} {rs : List (Bs × Bs)} {ks : List Cd} {ar : List (List Bs × Cd)} (h : CdAt w S [.int .i64 k, .bool nt, v2, v3, v4, v5, v6] (.mk k' nt' ag ws rs ks ar)) : k = k' ∧ nt = nt' := by
  generalize hl : [Value.int .i64 k, .bool nt, v2, v3, v4, v5, v6] = l at h
  cases h with
  | intro _ _ _ _ _ _ _ _ _ _ _ _ kc ac h1 h2 h3 h4 h5 h6 h7 h8 h9 h10 =>
    injection hl with e1 e2
    injection e2 with e2 _
    injection e1 with _ e1
    injection e2 with e2
    exact ⟨by omega, e2⟩
/-- the redirections of such a command are none -/
theorem cd_bare {w : World} {S : Nat → Prop} {k : Nat} {nt : Bool} {v2 v3 v4 v5 v6 : Value} {ag ws : List Bs} {ks : List Cd} {ar : List (List Bs × Cd)} {k' : Nat} {nt' : Bool} (h : CdAt w S [.int .i64 k, .bool nt, v2, v3, v4, v5, v6] (.mk k' nt' ag ws [] ks ar)) : RowS w S 65 2 v4 0 [] := by
  generalize hl : [Value.int .i64 k, .bool nt, v2, v3, v4, v5, v6] = l at h
  cases h with
  | intro _ _ _ _ _ _ _ _ _ _ _ _ kc ac h1 h2 h3 h4 h5 h6 h7 h8 h9 h10 =>
    injection hl with _ hl
    injection hl with _ hl
    injection hl with _ hl
    injection hl with _ hl
    injection hl with e _
    rw [e]
    exact h3
end Go.Proofs.YtbljbhlndjhhdaaGreatDoor
