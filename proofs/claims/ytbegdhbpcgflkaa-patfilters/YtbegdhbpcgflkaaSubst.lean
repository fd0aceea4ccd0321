/- The contract of pat.Subst. -/
import Derived.Test.YtbegdhbpcgflkaaPut
namespace Go.Proofs.Ytbegdhbpcgflkaa
open Go.RowKit Go.Shelf

/-- a box of a shape that is laid into a variable of its own -/
abbrev boxed (w : World) (a b : ByteArray) (o : Bool) : World := w.alloc (Obj.cells #[Value.string a, Value.string b, Value.bool o] 38)
theorem boxed_below (w : World) (a b : ByteArray) (o : Bool) : Below w.heap.size w (boxed w a b o) := (Below.refl _ w).alloc (Nat.le_refl _) _
theorem boxed_open (w : World) (a b : ByteArray) (o : Bool) : (boxed w a b o).cell? ⟨w.heap.size, 2, none⟩ = some (.bool o) := by unfold boxed; simp
theorem boxed_size (w : World) (a b : ByteArray) (o : Bool) : (boxed w a b o).heap.size = w.heap.size + 1 := by unfold boxed; simp

set_option maxHeartbeats 1000000 in
theorem subst_any (p t s : ByteArray) (w : World) (hp : p.size ≤ 1000000) (ht : t.size ≤ 1000000) (hs : s.size ≤ 1000000) :
    Calls Try.prog 13 #[.string p, .string t, .string s] w fun e w' => e = .returned (.string (mk (sub (tl p) (tl t) (tl s)))) ∧ Below w.heap.size w w' := by
  have q1 := fun w => shapeOf_any p w hp
  have q2 := fun w => match_any (mk (ahd (tl p))) (mk (bhd (tl p))) (opn (tl p)) s w hs
  simp only [tl_mk] at q2
  rw [show ms (ahd (tl p)) (bhd (tl p)) (opn (tl p)) (tl s) = mt (tl p) (tl s) from rfl] at q2
  have hl := mt_len (tl p) (tl s)
  rw [tl_len] at hl
  have hm : (mk (mt (tl p) (tl s)).1).size ≤ 1000000 := by rw [mk_size]; omega
  have q3 := fun w => clone_any s w (by omega)
  have q4 := fun w => clone_any t w (by omega)
  have q5 := fun w => put_any t (mk (mt (tl p) (tl s)).1) w ht hm
  simp only [tl_mk] at q5
  have hx : mk (sub (tl p) (tl t) (tl s)) = if (mt (tl p) (tl s)).2 then (if opn (tl p) then mk (put (tl t) (mt (tl p) (tl s)).1) else t) else s := by
    unfold sub
    split
    · split
      · rfl
      · exact mk_tl t
    · exact mk_tl s
  rw [hx]
  clear hx hl hm
  generalize mk (ahd (tl p)) = a at q1 q2
  generalize mk (bhd (tl p)) = b at q1 q2
  generalize opn (tl p) = o at q1 q2
  generalize mk (put (tl t) (mt (tl p) (tl s)).1) = z at q5
  generalize mk (mt (tl p) (tl s)).1 = x at q2 q5
  generalize (mt (tl p) (tl s)).2 = y at q2
  cases y with
  | false =>
    go_enter Try.func13, Try.ntmps13
    go_wp2_with fail
    refine (q1 _).mono ?_
    rintro e w1 ⟨rfl, hb1⟩
    have B1 := hb1.trans ((boxed_below w1 a b o).mono hb1.size)
    clear hb1
    go_wp2_with fail
    refine (q2 _).mono ?_
    rintro e w2 ⟨rfl, hb2⟩
    have B2 := B1.trans (hb2.mono B1.size)
    clear B1 hb2
    go_wp2_with fail
    refine (q3 _).mono ?_
    rintro e w3 ⟨rfl, hb3⟩
    have B3 := B2.trans (hb3.mono B2.size)
    clear B2 hb3
    go_wp2
    go_ret
    exact ⟨rfl, B3⟩
  | true =>
    cases o with
    | false =>
      go_enter Try.func13, Try.ntmps13
      go_wp2_with fail
      refine (q1 _).mono ?_
      rintro e w1 ⟨rfl, hb1⟩
      have B1 := hb1.trans ((boxed_below w1 a b false).mono hb1.size)
      have c1 := boxed_open w1 a b false
      have z1 := boxed_size w1 a b false
      clear hb1
      go_wp2_with fail
      refine (q2 _).mono ?_
      rintro e w2 ⟨rfl, hb2⟩
      have B2 := B1.trans (hb2.mono B1.size)
      have c2 := (hb2.cell (p := ⟨w1.heap.size, 2, none⟩) (by rw [z1]; simp)).trans c1
      clear B1 hb2 c1 z1
      go_wp2_with fail
      refine (q4 _).mono ?_
      rintro e w3 ⟨rfl, hb3⟩
      have B3 := B2.trans (hb3.mono B2.size)
      clear B2 hb3
      go_wp2
      go_ret
      exact ⟨rfl, B3⟩
    | true =>
      go_enter Try.func13, Try.ntmps13
      go_wp2_with fail
      refine (q1 _).mono ?_
      rintro e w1 ⟨rfl, hb1⟩
      have B1 := hb1.trans ((boxed_below w1 a b true).mono hb1.size)
      have c1 := boxed_open w1 a b true
      have z1 := boxed_size w1 a b true
      clear hb1
      go_wp2_with fail
      refine (q2 _).mono ?_
      rintro e w2 ⟨rfl, hb2⟩
      have B2 := B1.trans (hb2.mono B1.size)
      have c2 := (hb2.cell (p := ⟨w1.heap.size, 2, none⟩) (by rw [z1]; simp)).trans c1
      clear B1 hb2 c1 z1
      go_wp2_with fail
      refine (q5 _).mono ?_
      rintro e w3 ⟨rfl, hb3⟩
      have B3 := B2.trans (hb3.mono B2.size)
      clear B2 hb3
      go_wp2
      go_ret
      exact ⟨rfl, B3⟩
end Go.Proofs.Ytbegdhbpcgflkaa
