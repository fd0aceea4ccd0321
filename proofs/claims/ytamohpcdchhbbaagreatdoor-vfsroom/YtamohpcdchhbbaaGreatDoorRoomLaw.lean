/- The law VfsRoom, walked. -/
import Derived.Test.YtamohpcdchhbbaaGreatDoorRoom
namespace Go.Proofs.YtamohpcdchhbbaaGreatDoor
open Go.RowKit Go.Maps

theorem fld24 (z : Value) (w : World) : (Instr.field 24 (.agg #[.slice none 0 0, .int .i64 0, z]) 0).run Tryz.prog w = .ok (.slice none 0 0) w := by kernel_rfl
theorem fld51 (n : Int) (w : World) : (Instr.field 51 (.agg #[.int .i64 1, .int .i64 3, .int .i64 n]) 2).run Tryz.prog w = .ok (.int .i64 n) w := by kernel_rfl
set_option maxRecDepth 100000 in
set_option maxHeartbeats 4000000 in
theorem room_out (B : Nat) (E : Addr) (room first : Int) (w : World) (hG : Glo B w E) (hB : B ≤ w.heap.size) (h : room < 2 ∨ 60000 < room ∨ first < 0 ∨ 60000 < first) : Calls Tryz.prog 6 #[.int .i64 room, .int .i64 first] w fun r w' => r = .returned (.bool true) ∧ Below w.heap.size w w' := by
  have q0 := alive_any B E w hG hB
  by_cases h1 : room < 2
  · go_enter Tryz.func6, Tryz.ntmps6
    go_wp2_with fail
    refine q0.mono ?_
    rintro r w1 ⟨rfl, hb1⟩
    go_wp2
    go_ret
    exact ⟨rfl, hb1⟩
  by_cases h2 : 60000 < room
  · go_enter Tryz.func6, Tryz.ntmps6
    go_wp2_with fail
    refine q0.mono ?_
    rintro r w1 ⟨rfl, hb1⟩
    go_wp2
    go_ret
    exact ⟨rfl, hb1⟩
  by_cases h3 : first < 0
  · go_enter Tryz.func6, Tryz.ntmps6
    go_wp2_with fail
    refine q0.mono ?_
    rintro r w1 ⟨rfl, hb1⟩
    go_wp2
    go_ret
    exact ⟨rfl, hb1⟩
  have h4 : 60000 < first := by omega
  go_enter Tryz.func6, Tryz.ntmps6
  go_wp2_with fail
  refine q0.mono ?_
  rintro r w1 ⟨rfl, hb1⟩
  go_wp2
  go_ret
  exact ⟨rfl, hb1⟩
set_option maxRecDepth 100000 in
set_option maxHeartbeats 4000000 in
/-- the first file has no room -/
theorem room_none (B : Nat) (E : Addr) (room : Int) (f : Nat) (w : World) (hG : Glo B w E) (hB : B ≤ w.heap.size) (h1 : ¬ room < 2) (h2 : ¬ 60000 < room) (h4 : ¬ 60000 < (f : Int)) (h5 : room < (f : Int) + 1) : Calls Tryz.prog 6 #[.int .i64 room, .int .i64 f] w fun r w' => r = .returned (.bool true) ∧ Below w.heap.size w w' := by
  have q0 := alive_any B E w hG hB
  have h3 : ¬ (f : Int) < 0 := by omega
  obtain ⟨mkw, hm1, hm2, hm3⟩ := made f (by omega)
  have k0 : IntKind.i64.wrap ((f : Int) + 1) = (f : Int) + 1 := i64_id _ (by omega)
  have ha := room_a_no f room (by omega) (by omega)
  have hnw := room_new room (by omega) (by omega)
  go_enter Tryz.func6, Tryz.ntmps6
  go_wp2_with fail
  refine q0.mono ?_
  rintro r w1 ⟨rfl, hb1⟩
  have q1 := New_any B E (.slice none 0 0) [] 0 room w1 (.inl ⟨⟨_, _, rfl⟩, rfl⟩) (hG.keep (hb1.mono hB)) (Nat.le_trans hB hb1.size) (fun n hn => by cases hn)
  rw [hnw] at q1
  go_wp2_with fail
  refine q1.mono ?_
  rintro r w2 ⟨hb2, A, rfl, hf2⟩
  have hB2 := hb1.trans (hb2.mono hb1.size)
  have hf2 := hf2.mono (S' := fun i => w.heap.size ≤ i) fun i hi => Nat.le_trans hb1.size hi
  have he := fun w => eq_fs_nil A w
  go_wp2_with fail
  refine (num_any 0 _).mono ?_
  rintro r w3 ⟨rfl, rfl⟩
  have hb3 := hm3 w3
  have hB3 := hB2.trans (hb3.mono hB2.size)
  have q2 := Write_any B A E [] 0 room { data := #[97] } (zeros f) (.slice (some ⟨w3.heap.size, 0, none⟩) f f) false _ _ (hf2.below hb3) (hG.keep (hB3.mono hB)) (Nat.le_trans hB hB3.size) (fun i hi => Nat.le_trans hB hi) (by omega) (by decide) (hm2 w3) (by rw [zeros_len]; omega)
  rw [ha] at q2
  go_wp2_with fail
  refine q2.mono ?_
  intro r w4 hr
  obtain ⟨rfl, hf4, hb4⟩ := hr.from (fun i => Iff.rfl) hB3.size
  have hB4 := hB3.trans hb4
  have q3 := Tree_none A 0 room _ w4 hf4
  have hfd := fld24 (.int .i64 room)
  go_wp2_with fail
  refine (num_any _ _).mono ?_
  rintro r w5 ⟨rfl, rfl⟩
  go_wp2_with fail
  refine q3.mono ?_
  rintro r w6 ⟨rfl, hb6⟩
  go_wp2
  go_ret
  exact ⟨rfl, hB4.trans (hb6.mono hB4.size)⟩
end Go.Proofs.YtamohpcdchhbbaaGreatDoor
