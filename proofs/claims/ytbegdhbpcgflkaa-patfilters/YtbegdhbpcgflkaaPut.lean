/- The contracts of pat's put, Match, Put and Subst. -/
import Derived.Test.YtbegdhbpcgflkaaShape
namespace Go.Proofs.Ytbegdhbpcgflkaa
open Go.RowKit Go.Shelf

set_option maxHeartbeats 1000000 in
theorem puts_any (a b : ByteArray) (o : Bool) (s : ByteArray) (w : World) (ha : a.size ≤ 1000000) (hb : b.size ≤ 1000000) (hs : s.size ≤ 1000000) :
    Calls Try.prog 25 #[shv a b o, .string s] w fun e w' => e = .returned (.string (mk (ps (tl a) (tl b) o (tl s)))) ∧ Below w.heap.size w w' := by
  obtain ⟨W0, hW0⟩ : ∃ W0, W0 = (w.alloc (Obj.cells #[Value.string a, Value.string b, Value.bool o] 38)).alloc (Obj.cells #[Value.pointer none, Value.slice none 0 0] 55) := ⟨_, rfl⟩
  have hb0 : Bld (w.heap.size + 1) (w.heap.size + 1) [] W0 := by
    have := Lib.fresh_isBuilder 55 5 (w.alloc (Obj.cells #[Value.string a, Value.string b, Value.bool o] 38))
    rw [World.size_alloc, ← hW0] at this
    exact this
  have hB0 : Below w.heap.size w W0 := by rw [hW0]; exact ((Below.refl _ w).alloc (Nat.le_refl _) _).alloc (by simp) _
  have hz0 : W0.heap.size = w.heap.size + 2 := by rw [hW0]; simp
  have hc0 : W0.cell? ⟨w.heap.size, 0, none⟩ = some (.string a) := by rw [hW0]; simp
  have hc1 : W0.cell? ⟨w.heap.size, 1, none⟩ = some (.string b) := by rw [hW0]; simp
  have hc2 : W0.cell? ⟨w.heap.size, 2, none⟩ = some (.bool o) := by rw [hW0]; simp
  have q1 := write_any (w.heap.size + 1) (w.heap.size + 1) [] a W0 hb0 (by simp; omega) (by omega)
  rw [List.nil_append] at q1
  have HW := hide' hW0
  cases o with
  | false =>
    rw [show ps (tl a) (tl b) false (tl s) = tl a from rfl]
    have q2 := fun W h k => string_any (w.heap.size + 1) (w.heap.size + 1) (tl a) W h k
    generalize mk (tl a) = r at q2
    clear hW0 hb0
    go_enter Try.func25, Try.ntmps25
    go_wp2_with fail
    rw [← HW.out]
    refine q1.mono ?_
    rintro e w1 ⟨rfl, h1, B1⟩
    have d2 := (B1.cell (p := ⟨w.heap.size, 2, none⟩) (by simp)).trans hc2
    have hz1 := B1.size
    have D1 := hB0.trans (B1.mono (by omega))
    clear q1 hc0 hc1 hc2 B1
    go_wp2_with fail
    refine (q2 w1 h1 (by omega)).mono ?_
    rintro e w2 ⟨rfl, B2⟩
    go_wp2
    go_ret
    exact ⟨rfl, D1.trans (B2.mono (by omega))⟩
  | true =>
    rw [show ps (tl a) (tl b) true (tl s) = tl a ++ tl s ++ tl b by rw [List.append_assoc]; rfl]
    have q2 := fun W h k => write_any (w.heap.size + 1) (w.heap.size + 1) (tl a) s W h (by rw [tl_len]; omega) k
    have q3 := fun W h k => write_any (w.heap.size + 1) (w.heap.size + 1) (tl a ++ tl s) b W h (by rw [List.length_append, tl_len, tl_len]; omega) k
    have q4 := fun W h k => string_any (w.heap.size + 1) (w.heap.size + 1) (tl a ++ tl s ++ tl b) W h k
    generalize mk (tl a ++ tl s ++ tl b) = r at q4
    clear hW0 hb0
    go_enter Try.func25, Try.ntmps25
    go_wp2_with fail
    rw [← HW.out]
    refine q1.mono ?_
    rintro e w1 ⟨rfl, h1, B1⟩
    have d2 := (B1.cell (p := ⟨w.heap.size, 2, none⟩) (by simp)).trans hc2
    have d1 := (B1.cell (p := ⟨w.heap.size, 1, none⟩) (by simp)).trans hc1
    have hz1 := B1.size
    have D1 := hB0.trans (B1.mono (by omega))
    clear q1 hc0 hc1 hc2 B1
    go_wp2_with fail
    refine (q2 w1 h1 (by omega)).mono ?_
    rintro e w2 ⟨rfl, h2, B2⟩
    have f1 := (B2.cell (p := ⟨w.heap.size, 1, none⟩) (by simp)).trans d1
    have hz2 := B2.size
    have D2 := D1.trans (B2.mono (by omega))
    clear q2 d1 d2 B2 D1 h1
    go_wp2_with fail
    refine (q3 w2 h2 (by omega)).mono ?_
    rintro e w3 ⟨rfl, h3, B3⟩
    have hz3 := B3.size
    have D3 := D2.trans (B3.mono (by omega))
    clear q3 f1 B3 D2 h2
    go_wp2_with fail
    refine (q4 w3 h3 (by omega)).mono ?_
    rintro e w4 ⟨rfl, B4⟩
    go_wp2
    go_ret
    exact ⟨rfl, D3.trans (B4.mono (by omega))⟩

set_option maxHeartbeats 400000 in
theorem pmatch_any (p s : ByteArray) (w : World) (hp : p.size ≤ 1000000) (hs : s.size ≤ 1000000) :
    Calls Try.prog 7 #[.string p, .string s] w fun e w' => e = .returned (.tuple #[.string (mk (mt (tl p) (tl s)).1), .bool (mt (tl p) (tl s)).2]) ∧ Below w.heap.size w w' := by
  have q1 := fun w => shapeOf_any p w hp
  have q2 := fun w => match_any (mk (ahd (tl p))) (mk (bhd (tl p))) (opn (tl p)) s w hs
  simp only [tl_mk] at q2
  rw [show ms (ahd (tl p)) (bhd (tl p)) (opn (tl p)) (tl s) = mt (tl p) (tl s) from rfl] at q2
  have hl := mt_len (tl p) (tl s)
  have q3 := fun w => clone_any (mk (mt (tl p) (tl s)).1) w (by rw [mk_size]; rw [tl_len] at hl; omega)
  generalize mk (ahd (tl p)) = a at q1 q2
  generalize mk (bhd (tl p)) = b at q1 q2
  generalize opn (tl p) = o at q1 q2
  generalize mk (mt (tl p) (tl s)).1 = x at q2 q3
  generalize (mt (tl p) (tl s)).2 = y at q2
  clear hl
  go_enter Try.func7, Try.ntmps7
  go_wp2_with fail
  refine (q1 _).mono ?_
  rintro e w1 ⟨rfl, hb1⟩
  go_wp2_with fail
  refine (q2 _).mono ?_
  rintro e w2 ⟨rfl, hb2⟩
  have B2 := hb1.trans (hb2.mono hb1.size)
  clear hb1 hb2
  go_wp2_with fail
  refine (q3 _).mono ?_
  rintro e w3 ⟨rfl, hb3⟩
  have B3 := B2.trans (hb3.mono B2.size)
  clear B2 hb3
  go_wp2
  go_ret2
  exact ⟨rfl, B3⟩

theorem ahd_size (p : ByteArray) : (mk (ahd (tl p))).size ≤ p.size := by rw [mk_size, ahd_len, ← tl_len]; exact fp_le _
theorem bhd_size (p : ByteArray) : (mk (bhd (tl p))).size ≤ p.size := by rw [mk_size, bhd_len, ← tl_len]; omega

set_option maxHeartbeats 400000 in
theorem put_any (p s : ByteArray) (w : World) (hp : p.size ≤ 1000000) (hs : s.size ≤ 1000000) :
    Calls Try.prog 11 #[.string p, .string s] w fun e w' => e = .returned (.string (mk (put (tl p) (tl s)))) ∧ Below w.heap.size w w' := by
  have q1 := fun w => shapeOf_any p w hp
  have h1 := ahd_size p
  have h2 := bhd_size p
  have q2 := fun w => puts_any (mk (ahd (tl p))) (mk (bhd (tl p))) (opn (tl p)) s w (by omega) (by omega) hs
  simp only [tl_mk] at q2
  rw [show ps (ahd (tl p)) (bhd (tl p)) (opn (tl p)) (tl s) = put (tl p) (tl s) from rfl] at q2
  clear h1 h2
  generalize mk (ahd (tl p)) = a at q1 q2
  generalize mk (bhd (tl p)) = b at q1 q2
  generalize opn (tl p) = o at q1 q2
  generalize mk (put (tl p) (tl s)) = x at q2
  go_enter Try.func11, Try.ntmps11
  go_wp2_with fail
  refine (q1 _).mono ?_
  rintro e w1 ⟨rfl, hb1⟩
  go_wp2_with fail
  refine (q2 _).mono ?_
  rintro e w2 ⟨rfl, hb2⟩
  have B2 := hb1.trans (hb2.mono hb1.size)
  clear hb1 hb2
  go_wp2
  go_ret
  exact ⟨rfl, B2⟩
end Go.Proofs.Ytbegdhbpcgflkaa
