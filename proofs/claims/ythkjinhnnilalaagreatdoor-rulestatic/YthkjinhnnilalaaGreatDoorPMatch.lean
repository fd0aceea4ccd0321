/- The contract of pat.Match. -/
import Derived.Test.YthkjinhnnilalaaGreatDoorPShape
import Derived.Test.YthkjinhnnilalaaGreatDoorXWords
namespace Go.Proofs.YthkjinhnnilalaaGreatDoor.Pt
open Go.RowKit Go.Shelf


set_option maxHeartbeats 400000 in
theorem pmatch_any (p s : ByteArray) (w : World) (hp : p.size ≤ 1000000) (hs : s.size ≤ 1000000) :
    Calls Tryz.prog 68 #[.string p, .string s] w fun e w' => e = .returned (.tuple #[.string (mk (mt (tl p) (tl s)).1), .bool (mt (tl p) (tl s)).2]) ∧ Below w.heap.size w w' := by
  have q1 := fun w => shapeOf_any p w hp
  have q2 := fun w => match_any (mk (ahd (tl p))) (mk (bhd (tl p))) (opn (tl p)) s w hs
  simp only [tl_mk] at q2
  rw [show ms (ahd (tl p)) (bhd (tl p)) (opn (tl p)) (tl s) = mt (tl p) (tl s) from rfl] at q2
  have hl := mt_len (tl p) (tl s)
  have q3 := fun w => Tx.clone_any (mk (mt (tl p) (tl s)).1) w (by rw [mk_size]; rw [tl_len] at hl; omega)
  generalize mk (ahd (tl p)) = a at q1 q2
  generalize mk (bhd (tl p)) = b at q1 q2
  generalize opn (tl p) = o at q1 q2
  generalize mk (mt (tl p) (tl s)).1 = x at q2 q3
  generalize (mt (tl p) (tl s)).2 = y at q2
  clear hl
  go_enter Tryz.func68, Tryz.ntmps68
  go_wp2_with fail
  refine (q1 _).mono ?_
  rintro e w1 ⟨rfl, hb1⟩
  go_wp2_with fail
  refine (q2 _).mono ?_
  rintro e w2 ⟨rfl, hb2⟩
  have B2 := hb1.trans (hb2.mono hb1.size)
  clear hb1 hb2
  go_wp2_with fail
  refine (q3 _).mono ?_
  rintro e w3 ⟨rfl, hb3⟩
  have B3 := B2.trans (hb3.mono B2.size)
  clear B2 hb3
  go_wp2
  go_ret2
  exact ⟨rfl, B3⟩
end Go.Proofs.YthkjinhnnilalaaGreatDoor.Pt
