/- The contracts of seek.dated at a name that is no member's, and of seek.changed over what dated tells. -/
import Derived.Test.YtabmnkddmdffkaaGreatDoorAAb
import Derived.Test.YtabmnkddmdffkaaGreatDoorAPrt
import Derived.Test.YtabmnkddmdffkaaGreatDoorAPub
namespace Go.Proofs.YtabmnkddmdffkaaGreatDoor.Sk
open Go.RowKit Go.Shelf

/-- what dated tells -/
def DtV (w' : World) (Ea : Addr) (r : Ending) : Option Int → Prop
  | some t => r = .returned (.tuple #[.int .i64 t, .nilIface])
  | none => ∃ v, r = .returned (.tuple #[.int .i64 0, v]) ∧ (AbN w' Ea 0 v ∨ AbN w' Ea 1 v)
/-- what changed tells -/
def ChV (w' : World) (Ea : Addr) (r : Ending) : Option Int → Prop
  | some t => r = .returned (.tuple #[.int .i64 t, .nilIface])
  | none => ∃ v, r = .returned (.tuple #[.int .i64 0, v]) ∧ Ab w' Ea v
/-- a file's or directory's time -/
def stT (T : Tr) (p : Bs) : Option Int := if (statR T p).1 = 0 then none else some (statR T p).2.1

set_option maxRecDepth 100000 in
set_option maxHeartbeats 1000000 in
theorem dated_plain (A : Nat) (Ea : Addr) (s : ByteArray) (hs : s.size ≤ 1000000) (hm : isM (tl s) = false) (w : World) (ha : w.cell? ⟨0, 0, none⟩ = some (.iface 289 (.pointer (some Ea)))) (hl : 0 < w.heap.size) :
    Calls Tryz.prog 62 #[.pointer (some ⟨A, 0, none⟩), .string s] w fun e w' => DtV w' Ea e none ∧ Below w.heap.size w w' := by
  have q := parted_any s hs w
  rw [show prV (tl s) = .tuple #[.string ⟨#[]⟩, .string ⟨#[]⟩, .bool false] by unfold prV pA pM; rw [hm]; rfl] at q
  clear hm
  go_enter Tryz.func62, Tryz.ntmps62
  go_wp2_with fail
  refine q.mono ?_
  rintro e w1 ⟨rfl, hb⟩
  have ha1 := (hb.cell (p := ⟨0, 0, none⟩) hl).trans ha
  clear q ha
  go_wp2_with fail
  go_quiet (fail)
  go_wp2_with fail
  refine bodyPost_ret (by simp [results, Tryz.results62, go_sem]; rfl) rfl ?_
  exact ⟨⟨_, rfl, .inl .one⟩, hb.trans (below_drewn _)⟩

set_option maxRecDepth 100000 in
set_option maxHeartbeats 1000000 in
theorem changed_of (B A : Nat) (Ea E : Addr) (T : Tr) (clk rm : Int) (s : ByteArray) (hs : s.size ≤ 400000) (S : Nat → Prop) (w : World) (h : IsFs w S A T clk rm) (hG : Gl B w Ea E) (hB : B ≤ w.heap.size)
    (d : Option Int) (hD : Calls Tryz.prog 62 #[.pointer (some ⟨A, 0, none⟩), .string s] w fun e w' => DtV w' Ea e d ∧ Below w.heap.size w w') :
    Calls Tryz.prog 34 #[.pointer (some ⟨A, 0, none⟩), .string s] w fun e w' => ChV w' Ea e (d.or (stT T (clean (tl s)))) ∧ Below w.heap.size w w' := by
  have h0 : 0 < w.heap.size := by have := hG.lo; omega
  cases d with
  | some t =>
    have q2 := is_nil Ea
    have ha := hG.ca
    go_enter Tryz.func34, Tryz.ntmps34
    go_wp2_with fail
    refine hD.mono ?_
    rintro e w1 ⟨rfl, hb⟩
    have ha1 := (hb.cell (p := ⟨0, 0, none⟩) h0).trans ha
    clear ha hD hG h
    go_wp2_with fail
    refine (q2 _).mono ?_
    rintro e w2 ⟨rfl, rfl⟩
    go_wp2_with fail
    refine bodyPost_ret (by simp [results, Tryz.results34, go_sem]; rfl) rfl ?_
    exact ⟨rfl, hb⟩
  | none =>
    have q3 := fun w1 (hb : Below w.heap.size w w1) => Stat_any B A E T clk rm s S w1 (h.below hb) (hG.glo.keep (hb.mono hB)) (Nat.le_trans hB hb.size) hs
    have ha := hG.ca
    obtain ⟨x, hx⟩ : ∃ x, x = statR T (clean (tl s)) := ⟨_, rfl⟩
    have hst : (none : Option Int).or (stT T (clean (tl s))) = if x.1 = 0 then none else some x.2.1 := by rw [hx]; rfl
    rw [hst]
    rw [← hx] at q3
    clear hst hx
    obtain ⟨x1, x2, x3⟩ := x
    simp only [statV] at q3
    obtain ⟨o, ho⟩ : ∃ o : Option Int, o = if x1 = 0 then none else some x2 := ⟨_, rfl⟩
    rw [show (if ((x1, x2, x3) : Int × Int × Int).1 = 0 then none else some ((x1, x2, x3) : Int × Int × Int).2.1) = o from ho.symm]
    have HO := hide' ho
    clear ho
    clear h hG
    go_enter Tryz.func34, Tryz.ntmps34
    go_wp2_with fail
    refine hD.mono ?_
    rintro e w1 ⟨⟨v, rfl, hv⟩, hb⟩
    obtain ⟨ty, b, rfl⟩ : ∃ ty b, v = .iface ty (.pointer (some b)) := by
      rcases hv with h | h <;> cases h <;> exact ⟨_, _, rfl⟩
    have hab : Ab w1 Ea (.iface ty (.pointer (some b))) := by rcases hv with h | h; exact .inl h; exact .inr (.inl h)
    have ha1 := (hb.cell (p := ⟨0, 0, none⟩) h0).trans ha
    have q2 := is_ab Ea _ w1 hab
    have q4 := q3 w1 hb
    have HV := hide' hv
    clear ha hD q3 hab hv
    go_wp2_with fail
    refine q2.mono ?_
    rintro e w2 ⟨rfl, rfl⟩
    clear q2
    go_wp2_with fail
    refine q4.mono ?_
    rintro e w3 ⟨rfl, hb3⟩
    clear q4 ha1
    by_cases hx1 : x1 = 0
    · have HO2 := hide' (HO.out.trans (if_pos hx1))
      clear HO
      subst hx1
      go_wp2_with fail
      refine bodyPost_ret (by simp [results, Tryz.results34, go_sem]; rfl) rfl ?_
      have hb4 : Below w2.heap.size w2 (w3.alloc (Obj.cells #[Value.int IntKind.i64 0, Value.int IntKind.i64 x2, Value.int IntKind.i64 x3] 88)) := hb3.trans (((Below.refl _ w3).alloc (Nat.le_refl _) _).mono hb3.size)
      have hb5 := hb4.alloc hb4.size (Obj.cells #[Value.string s, .iface ty (.pointer (some b))] 115)
      rw [HO2.out]
      refine ⟨⟨_, rfl, ?_⟩, hb.trans (hb5.mono hb.size)⟩
      have hnew := World.alloc_heap_new (w3.alloc (Obj.cells #[Value.int IntKind.i64 0, Value.int IntKind.i64 x2, Value.int IntKind.i64 x3] 88)) (Obj.cells #[Value.string s, .iface ty (.pointer (some b))] 115)
      rw [World.size_alloc] at hnew
      rcases HV.out with hv | hv
      · exact .inr (.inl (.wrap 0 _ s _ hnew (abn_below hv hb5)))
      · exact .inr (.inr (.wrap 1 _ s _ hnew (abn_below hv hb5)))
    · have HO2 := hide' (HO.out.trans (if_neg hx1))
      clear HO
      go_wp2_with fail
      refine bodyPost_ret (by simp [results, Tryz.results34, go_sem]; rfl) rfl ?_
      rw [HO2.out]
      exact ⟨rfl, hb.trans ((hb3.trans (((Below.refl _ w3).alloc (Nat.le_refl _) _).mono hb3.size)).mono hb.size)⟩
end Go.Proofs.YtabmnkddmdffkaaGreatDoor.Sk
