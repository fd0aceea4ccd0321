/- The contract of ar.value: the number that digits stand for. -/
import Derived.Test.YtcijjigafcpcpaaGreatDoorPu
import Derived.Test.YtcijjigafcpcpaaGreatDoorShelf
import Derived.Deep.QuietTactic
import Derived.BigQuiet
namespace Go.Proofs.YtcijjigafcpcpaaGreatDoor
open Go.RowKit Go.Maps Go.Shelf

/-- what the library's variable ErrSyntax holds: some error, or none -/
def EvS (w : World) : Prop := ∃ ev, w.cell? ⟨3, 0, none⟩ = some ev ∧ (ev = .nilIface ∨ ∃ te pe, ev = .iface te pe)
theorem EvS.below {w w' : World} {B : Nat} (h : EvS w) (hb : Below B w w') (hB : 3 < B) : EvS w' := by
  obtain ⟨ev, h1, h2⟩ := h
  exact ⟨ev, (hb.cell (p := ⟨3, 0, none⟩) hB).trans h1, h2⟩
theorem toErr_any (fn s : ByteArray) (w : World) (hs : s.size ≤ 16) (he : EvS w) : Calls Tryz.prog 75 #[.string fn, .string s, .int .i64 10, .int .i64 62, .iface 138 (.int .i64 2)] w fun r w' => (∃ N, r = .returned (.iface 140 (.pointer (some ⟨N, 0, none⟩)))) ∧ Below w.heap.size w w' := by
  obtain ⟨ev, h1, h2⟩ := he
  have q : Calls Tryz.prog 75 #[.string fn, .string s, .int .i64 10, .int .i64 62, .iface 138 (.int .i64 2)] w fun e w' => ∃ N, e = .returned (.iface 140 (.pointer (some ⟨N, 0, none⟩))) ∧ w.heap.size ≤ N ∧ w'.heap[N]? = some (.cells #[.string fn, .string s, ev] 147 (0, 0)) ∧ Below w.heap.size w w' :=
    AnyPu.strconv_toError_syntax { Tryz.laysPu14 with } fn s 10 62 ev w (by omega) h1 h2
  refine q.mono ?_
  rintro r w' ⟨N, rfl, _, _, hb⟩
  exact ⟨⟨N, rfl⟩, hb⟩
/-- ParseUint's two ends -/
def PuP (s : Bs) (r : Ending) : Prop := (∃ n, valP s = some n ∧ r = .returned (.tuple #[.int .u64 n, .nilIface])) ∨ (valP s = none ∧ ∃ N, r = .returned (.tuple #[.int .u64 0, .iface 140 (.pointer (some ⟨N, 0, none⟩))]))
theorem pu_all (s : ByteArray) (w : World) (hs : s.size ≤ 16) : Calls Tryz.prog 74 #[.string s, .int .i64 10, .int .i64 62] w fun r w' => Below w.heap.size w w' ∧ PuR (tl s) r := by
  by_cases h0 : 0 < s.size
  · exact pu_any s w hs h0
  · have he : s = ⟨#[]⟩ := tl_inj _ _ (List.length_eq_zero_iff.1 (by rw [tl_len]; omega))
    subst he
    refine (Tryz.internal_strconv_ParseUint_empty 10 62 w).mono ?_
    rintro r w' ⟨rfl, rfl⟩
    exact ⟨Below.refl _ _, .inr ⟨rfl, rfl⟩⟩
set_option maxHeartbeats 1000000 in
theorem pub_any (s : ByteArray) (w : World) (hs : s.size ≤ 16) (he : EvS w) (h3 : 3 < w.heap.size) : Calls Tryz.prog 62 #[.string s, .int .i64 10, .int .i64 62] w fun r w' => Below w.heap.size w w' ∧ PuP (tl s) r := by
  have q := pu_all s w hs
  have qe := fun w he => toErr_any ⟨#[80, 97, 114, 115, 101, 85, 105, 110, 116]⟩ s w hs he
  have hq0 : ∀ w, (binOp BinOp.neq 48 .nilIface .nilIface).run Tryz.prog w = .ok (.bool false) w := fun w => by kernel_rfl
  have hq1 : ∀ w, (binOp BinOp.neq 48 (.iface 138 (.int .i64 2)) .nilIface).run Tryz.prog w = .ok (.bool true) w := fun w => by kernel_rfl
  have HE := hide' he
  clear he
  go_enter Tryz.func62, Tryz.ntmps62
  go_wp2_with fail
  refine q.mono ?_
  rintro r w1 ⟨hb1, ⟨n, hv, rfl⟩ | ⟨hv, rfl⟩⟩
  · have HV := hide' hv
    clear hv q
    go_wp2_with fail
    go_ret2
    exact ⟨hb1, .inl ⟨n, HV.out, rfl⟩⟩
  · have HV := hide' hv
    have he1 := HE.out.below hb1 h3
    clear hv q
    go_wp2_with fail
    refine (qe _ he1).mono ?_
    rintro r w2 ⟨⟨N, rfl⟩, hb2⟩
    have HB := hide' (hb1.trans (hb2.mono hb1.size))
    clear hb1 hb2
    go_wp2_with fail
    go_ret2
    exact ⟨HB.out, .inr ⟨HV.out, N, rfl⟩⟩
/-- value's two ends -/
def VlR (s : Bs) (r : Ending) : Prop := (∃ n : Nat, valP s = some n ∧ r = .returned (.tuple #[.int .i64 n, .bool true])) ∨ (valP s = none ∧ r = .returned (.tuple #[.int .i64 0, .bool false]))
theorem valP_lt (s : Bs) (h : s.length ≤ 16) (n : Nat) (hv : valP s = some n) : n < 10000000000000000 := by
  unfold valP at hv
  split at hv
  · cases hv
  · split at hv
    · rename_i ha
      have e := Option.some.inj hv
      have := numF_lt s 0 fun c hc => (dgtB_iff c).1 (List.all_eq_true.1 ha c hc)
      rw [e, Nat.zero_add, Nat.one_mul] at this
      have h2 : 10 ^ s.length ≤ 10 ^ 16 := Nat.pow_le_pow_right (by decide) h
      omega
    · cases hv
set_option maxHeartbeats 1000000 in
theorem value_any (s : ByteArray) (w : World) (hs : s.size ≤ 16) (he : EvS w) (h3 : 3 < w.heap.size) : Calls Tryz.prog 53 #[.string s] w fun r w' => Below w.heap.size w w' ∧ VlR (tl s) r := by
  have q := pub_any s w hs he h3
  have hq0 : ∀ w, (binOp BinOp.eql 48 .nilIface .nilIface).run Tryz.prog w = .ok (.bool true) w := fun w => by kernel_rfl
  clear he
  go_enter Tryz.func53, Tryz.ntmps53
  go_wp2_with fail
  refine q.mono ?_
  rintro r w1 ⟨hb1, ⟨n, hv, rfl⟩ | ⟨hv, N, rfl⟩⟩
  · have hlt := valP_lt _ (by rw [tl_len]; exact hs) n hv
    have hw : IntKind.i64.wrap (n : Int) = n := by rw [IntKind.wrap_i64]; omega
    have HV := hide' hv
    clear hv q
    go_wp2_with fail
    go_quiet (fail)
    go_wp2_with fail
    go_ret2
    exact ⟨hb1.trans (below_drewn _), .inl ⟨n, HV.out, rfl⟩⟩
  · have hq1 : ∀ w, (binOp BinOp.eql 48 (.iface 140 (.pointer (some ⟨N, 0, none⟩))) .nilIface).run Tryz.prog w = .ok (.bool false) w := fun w => by kernel_rfl
    have HV := hide' hv
    clear hv q
    go_wp2_with fail
    go_quiet (fail)
    go_wp2_with fail
    go_ret2
    exact ⟨hb1.trans (below_drewn _), .inr ⟨HV.out, rfl⟩⟩
end Go.Proofs.YtcijjigafcpcpaaGreatDoor
