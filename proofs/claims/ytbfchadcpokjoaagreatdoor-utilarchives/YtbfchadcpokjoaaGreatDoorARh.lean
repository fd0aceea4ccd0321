/- The contract of ar.Parse at no bytes. The contract of ar.Parse. -/
import Derived.Test.YtbfchadcpokjoaaGreatDoorARd
import Derived.Test.YtbfchadcpokjoaaGreatDoorARe
import Derived.ScopeJumps
import Derived.Test.YtbfchadcpokjoaaGreatDoorARPd
namespace Go.Proofs.YtbfchadcpokjoaaGreatDoor.Arc
open Go.RowKit Go.Maps Go.Shelf
set_option maxRecDepth 100000

set_option maxRecDepth 100000 in
set_option maxHeartbeats 2000000 in
theorem parsed_nil (w : World) : Calls Tryz.prog 184 #[.slice none 0 0] w fun r w' => (∃ e, r = .returned (.tuple #[.slice none 0 0, e]) ∧ IsE w' e 20) ∧ Below w.heap.size w w' := by
  have hcv := Lib.run_convert_bytes_const (P := Tryz.prog) w 33 5 #[.int .u8 33, .int .u8 60, .int .u8 97, .int .u8 114, .int .u8 99, .int .u8 104, .int .u8 62, .int .u8 10] 8 8 Tryz.underlying33 Tryz.underlying5
  have hb : ∀ o, Below w.heap.size w (w.alloc o) := fun o => (Below.refl _ _).alloc (Nat.le_refl _) o
  go_enter Tryz.func184, Tryz.ntmps184
  go_wp2
  refine wp_scope_jumps 0 (fun a' w' => Below w.heap.size w w' ∧ ∃ u1 u2 u3 u4 u5 u7 u8 u9 u10 u11 u12 u13 u14 u15 u16 u17 u18 u19 u20 u21 u22 u23 u24 u25 u26 u27 u28 u29 u30 u31 u32 u33 u34 u35 u36 u37 u38 u39 u40 u41 u42 u43 u44 u45 u46 u47 u48 u49 u50 u51 u52 u53 u54 u55 u56 u57 u58 u59 u60 u61 u62 u63 u64 u65 u66 u67 u68 u69 u70 u71 u72 u73 u74 u75 u76 u77 u78 u79 : Value, a' = ⟨#[.slice none 0 0, u1, u2, u3, u4, u5, .slice none 0 0, u7, u8, u9, u10, u11, u12, u13, u14, u15, u16, u17, u18, u19, u20, u21, u22, u23, u24, u25, u26, u27, u28, u29, u30, u31, u32, u33, u34, u35, u36, u37, u38, u39, u40, u41, u42, u43, u44, u45, u46, u47, u48, u49, u50, u51, u52, u53, u54, u55, u56, u57, u58, u59, u60, u61, u62, u63, u64, u65, u66, u67, u68, u69, u70, u71, u72, u73, u74, u75, u76, u77, u78, u79], []⟩) (fun _ _ => 0) rfl ?_ ?_
  · go_wp2_with (go_at_call 204; refine (Tryz.bytes_HasPrefix_e1 none _ 0 8 8 (by decide) _).mono ?_; rintro r w1 ⟨rfl, rfl⟩)
    go_step3
    exact ⟨rfl, hb _, _, _, _, _, _, _, _, _, _, _, _, _, _, _, _, _, _, _, _, _, _, _, _, _, _, _, _, _, _, _, _, _, _, _, _, _, _, _, _, _, _, _, _, _, _, _, _, _, _, _, _, _, _, _, _, _, _, _, _, _, _, _, _, _, _, _, _, _, _, _, _, _, _, _, _, _, _, _, rfl⟩
  · rintro a' w' ⟨hB, u1, u2, u3, u4, u5, u7, u8, u9, u10, u11, u12, u13, u14, u15, u16, u17, u18, u19, u20, u21, u22, u23, u24, u25, u26, u27, u28, u29, u30, u31, u32, u33, u34, u35, u36, u37, u38, u39, u40, u41, u42, u43, u44, u45, u46, u47, u48, u49, u50, u51, u52, u53, u54, u55, u56, u57, u58, u59, u60, u61, u62, u63, u64, u65, u66, u67, u68, u69, u70, u71, u72, u73, u74, u75, u76, u77, u78, u79, rfl⟩
    go_wp2
    simp only [Exit.jump]
    go_ret2
    exact ⟨⟨_, rfl, .inr ⟨by decide, _, _, rfl, alloc_new _ _⟩⟩, hB.alloc hB.size _⟩
set_option maxRecDepth 100000 in
set_option maxHeartbeats 1000000 in
theorem Parse_nil (w : World) : Calls Tryz.prog 159 #[.slice none 0 0] w fun r w' => r = .returned (.tuple #[.slice none 0 0, .int .i64 20]) ∧ Below w.heap.size w w' := by
  have q := parsed_nil w
  go_enter Tryz.func159, Tryz.ntmps159
  go_wp2_with fail
  refine q.mono ?_
  rintro r w1 ⟨⟨e, rfl, he⟩, hb⟩
  have qn := number_any e 20 w1 he (by simp)
  go_wp2_with fail
  refine qn.mono ?_
  rintro r w2 ⟨rfl, rfl⟩
  go_wp2
  go_ret2
  exact ⟨rfl, hb⟩
end Go.Proofs.YtbfchadcpokjoaaGreatDoor.Arc
namespace Go.Proofs.YtbfchadcpokjoaaGreatDoor.Arc
open Go.RowKit Go.Maps Go.Shelf
set_option maxRecDepth 100000

/-- an archive's list in memory of its own, or the number of what is wrong -/
def PsR (B : Nat) (bs : Bs) (w' : World) (r : Ending) : Prop :=
  (∃ v ms, r = .returned (.tuple #[v, .int .i64 0]) ∧ MsAt w' B v ms ∧ wrongR ms = 0 ∧ archB ms = bs ∧ scanR bs = some (ms.map tE)) ∨
  (∃ k : Nat, r = .returned (.tuple #[.slice none 0 0, .int .i64 k]) ∧ (k = 2 ∧ 65536 < bs.length ∨ k = 20 ∧ ¬ 65536 < bs.length) ∧ ∀ ms, wrongR ms = 0 → archB ms ≠ bs)
set_option maxRecDepth 100000 in
set_option maxHeartbeats 1000000 in
theorem Parse_bsl (a : Addr) (n cap : Nat) (bs : Bs) (w : World) (hR : Rds w (.slice (some a) n cap) bs) (hn : n = bs.length) (hcap : n ≤ cap) (hl : n ≤ 100000) (hE : Env w) (hS : EvS w) (hM : Mx w) (h3 : 9 < w.heap.size) :
    Calls Tryz.prog 159 #[.slice (some a) n cap] w fun r w' => Below w.heap.size w w' ∧ PsR w.heap.size bs w' r := by
  have q := parsed_bsl a n cap bs w hR hn hcap hl hE hS hM h3
  clear hn hR hE hS hM
  go_enter Tryz.func159, Tryz.ntmps159
  go_wp2_with fail
  refine q.mono ?_
  rintro r w1 ⟨hb, hp⟩
  clear q
  rcases hp with ⟨v, ms, rfl, hms, h1, h2, h4⟩ | ⟨e, k, rfl, hk, he, hno⟩
  · have qn := number_any .nilIface 0 w1 (.inl ⟨rfl, rfl⟩) (by simp)
    obtain ⟨va, vc, hv⟩ := hms.mems.len
    subst hv
    have HK := hide' (And.intro hms (And.intro h1 (And.intro h2 h4)))
    clear hms h1 h2 h4
    dsimp only
    go_wp2_with fail
    refine qn.mono ?_
    rintro r w2 ⟨rfl, rfl⟩
    dsimp only
    go_wp2_with fail
    go_ret2
    exact ⟨hb, .inl ⟨_, ms, rfl, HK.out.1, HK.out.2.1, HK.out.2.2.1, HK.out.2.2.2⟩⟩
  · have qn := number_any e k w1 he (by rcases hk with ⟨rfl, _⟩ | ⟨rfl, _⟩ <;> simp)
    have HK := hide' (And.intro hk hno)
    clear hk hno he
    dsimp only
    go_wp2_with fail
    refine qn.mono ?_
    rintro r w2 ⟨rfl, rfl⟩
    dsimp only
    go_wp2_with fail
    go_ret2
    exact ⟨hb, .inr ⟨k, rfl, HK.out.1, HK.out.2⟩⟩
theorem arch_ne (ms : List Mv) : archB ms ≠ [] := by
  unfold archB
  simp [magicB]
theorem Parse_any (v : Value) (bs : Bs) (w : World) (h : Tbs w v bs) (hl : bs.length ≤ 100000) (hE : Env w) (hS : EvS w) (hM : Mx w) (h3 : 9 < w.heap.size) : Calls Tryz.prog 159 #[v] w fun r w' => Below w.heap.size w w' ∧ PsR w.heap.size bs w' r := by
  rcases h with ⟨rfl, rfl⟩ | ⟨a, n, cap, rfl, hn, hc, hr⟩
  · refine (Parse_nil w).mono ?_
    rintro r w' ⟨rfl, hb⟩
    exact ⟨hb, .inr ⟨20, rfl, .inr ⟨rfl, by simp⟩, fun ms _ => arch_ne ms⟩⟩
  · exact Parse_bsl a n cap bs w hr hn hc (by omega) hE hS hM h3
theorem Dat.tbs {w : World} {v : Value} {bs : Bs} (h : Dat w v bs) : Tbs w v bs := by
  have hr := h.rds
  rcases h with ⟨rfl, rfl⟩ | ⟨g, cap, cur, rfl, h1, h2, h3, h4, h5⟩
  · exact .inl ⟨rfl, rfl⟩
  · exact .inr ⟨_, _, _, rfl, rfl, h2, hr⟩
end Go.Proofs.YtbfchadcpokjoaaGreatDoor.Arc
