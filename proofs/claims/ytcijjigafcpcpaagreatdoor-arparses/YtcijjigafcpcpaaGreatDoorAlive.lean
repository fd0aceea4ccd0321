/- The contract of anvillaw7.alive. -/
import Derived.Test.YtcijjigafcpcpaaGreatDoorNil
namespace Go.Proofs.YtcijjigafcpcpaaGreatDoor
open Go.RowKit Go.Maps Go.Shelf

def xo (b : Nat) : Mv := ⟨[120, 46, 111], 5, .slice (some ⟨b, 0, none⟩) 2 2, [97, 98]⟩
theorem xo_len (b : Nat) : lenA [xo b] = 70 := by simp [lenA, sumM, wtD, wtT, evn, lng, xo]
theorem xo_ok (b : Nat) : [xo b].all okM = true := by simp [okM, nmb, xo]
theorem xo_wrong (b : Nat) : wrongR [xo b] = 0 := wrong_ok (by simp) (by rw [xo_len]; decide) (xo_ok b)
theorem xo_arch (b : Nat) : (archB [xo b]).length = 70 := by rw [arch_length (by rw [xo_len]; decide) (xo_ok b), xo_len]
theorem no_arch : archB [] = magicB := rfl
set_option maxRecDepth 100000 in
set_option maxHeartbeats 4000000 in
theorem alive_any (w : World) (hE : Env w) (h11 : 2 ≤ w.heap.size) : Calls Tryz.prog 8 #[] w fun r w' => r = .returned (.bool true) ∧ Below w.heap.size w w' := by
  have hcv := Lib.run_convert_bytes_const (P := Tryz.prog) w 26 5 #[.int .u8 97, .int .u8 98] 2 2 Tryz.underlying26 Tryz.underlying5
  have b1 : Below w.heap.size w ((w.alloc (.cells #[.int .u8 97, .int .u8 98] 5 (2, 3))).alloc (.cells #[.string (mk [120, 46, 111]), .int .i64 5, .slice (some ⟨w.heap.size, 0, none⟩) 2 2] 37)) := ((Below.refl _ _).alloc (Nat.le_refl _) _).alloc (by simp) _
  have z1 := alloc_new (w.alloc (.cells #[.int .u8 97, .int .u8 98] 5 (2, 3))) (.cells #[.string (mk [120, 46, 111]), .int .i64 5, .slice (some ⟨w.heap.size, 0, none⟩) 2 2] 37)
  rw [size_alloc'] at z1
  have z0 := (Below.heap_alloc (w.alloc (.cells #[.int .u8 97, .int .u8 98] 5 (2, 3))) (.cells #[.string (mk [120, 46, 111]), .int .i64 5, .slice (some ⟨w.heap.size, 0, none⟩) 2 2] 37) w.heap.size (by simp)).trans (alloc_new w _)
  obtain ⟨w1, hw1⟩ : ∃ w1, w1 = (w.alloc (.cells #[.int .u8 97, .int .u8 98] 5 (2, 3))).alloc (.cells #[.string (mk [120, 46, 111]), .int .i64 5, .slice (some ⟨w.heap.size, 0, none⟩) 2 2] 37) := ⟨_, rfl⟩
  rw [← hw1] at b1 z0 z1
  have hM : Mems w1 (.slice (some ⟨w.heap.size + 1, 0, none⟩) 1 1) [xo w.heap.size] := by
    refine .inr ⟨w.heap.size + 1, 0, 1, rfl, Nat.le_refl _, ⟨lt_of_block z1, fun i m hi => ?_, fun i m hi => ?_, fun i m hi => ?_⟩, fun m hm => ?_⟩
    · rcases i with _ | i
      · cases hi; rw [Lib.cell_of_heap z1]; rfl
      · simp at hi
    · rcases i with _ | i
      · cases hi; rw [Lib.cell_of_heap z1]; rfl
      · simp at hi
    · rcases i with _ | i
      · cases hi; rw [Lib.cell_of_heap z1]; rfl
      · simp at hi
    · rw [List.mem_singleton.1 hm]
      refine .inr ⟨⟨w.heap.size, 0, none⟩, 2, rfl, fun _ => lt_of_block z0, fun j u hj => ?_⟩
      rw [add_zero]
      rcases j with _ | _ | j
      · cases hj; rw [Lib.cell_of_heap z0]; rfl
      · cases hj; rw [Lib.cell_of_heap z0]; rfl
      · simp [xo, Lib.byteCells] at hj
  have q1 := Write_any _ [xo w.heap.size] w1 hM ⟨by simp, by rw [xo_len]; decide, fun m hm => by rw [List.mem_singleton.1 hm]; simp [xo]⟩ (hE.keep (b1.mono h11) (by omega)) (Nat.le_trans h11 b1.size)
  clear hM z0 z1
  go_enter Tryz.func8, Tryz.ntmps8
  go_wp2_with fail
  show Calls Tryz.prog 11 _ ((w.alloc (.cells #[.int .u8 97, .int .u8 98] 5 (2, 3))).alloc (.cells #[.string (mk [120, 46, 111]), .int .i64 5, .slice (some ⟨w.heap.size, 0, none⟩) 2 2] 37)) _
  rw [← hw1]
  clear hw1 hcv
  refine q1.mono ?_
  rintro r w2 ⟨hb2, ⟨_, v2, rfl, hD2, hO2⟩ | ⟨hz, _⟩⟩
  · clear q1
    have hB2 := b1.trans (hb2.mono b1.size)
    obtain ⟨a2, c2, hv2⟩ := hD2.len
    rw [xo_arch] at hv2
    subst hv2
    have q3 := Write_any (.slice none 0 0) [] w2 (.inl ⟨⟨_, _, rfl⟩, rfl⟩) ⟨by simp, by decide, fun m hm => (by cases hm)⟩ (hE.keep (hB2.mono h11) (by omega)) (Nat.le_trans h11 hB2.size)
    clear hD2
    go_wp2_with fail
    refine q3.mono ?_
    rintro r w3 ⟨hb3, ⟨_, v3, rfl, hD3, hO3⟩ | ⟨hz, _⟩⟩
    · clear q3
      have hB3 := hB2.trans (hb3.mono hB2.size)
      have q4 := Parse_nil w3
      rw [no_arch] at hD3
      have hcs := hD3.rds
      obtain ⟨a3, c3, hv3⟩ := hD3.len
      subst hv3
      clear hD3
      go_wp2_with fail
      refine q4.mono ?_
      rintro r w4 ⟨rfl, hb4⟩
      clear q4
      have hB4 := hB3.trans (hb4.mono hB3.size)
      have hst := rds_str (hcs.below hb4)
      clear hcs
      go_wp2_with (go_at_call 14; refine (num_any _ _).mono ?_; rintro r w5 ⟨rfl, rfl⟩)
      go_ret
      exact ⟨rfl, hB4⟩
    · exact absurd rfl hz
  · exact absurd (xo_wrong _) hz
end Go.Proofs.YtcijjigafcpcpaaGreatDoor
