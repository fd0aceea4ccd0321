/- The law VfsRoom, walked: room is left behind the first file. -/
import Derived.Test.YtamohpcdchhbbaaGreatDoorRoomLaw
namespace Go.Proofs.YtamohpcdchhbbaaGreatDoor
open Go.RowKit Go.Maps

set_option maxRecDepth 100000 in
set_option maxHeartbeats 4000000 in
/-- room is left behind the first file -/
theorem room_more (B : Nat) (E : Addr) (room : Int) (f : Nat) (w : World) (hG : Glo B w E) (hB : B ≤ w.heap.size) (h1 : ¬ room < 2) (h2 : ¬ 60000 < room) (h4 : ¬ 60000 < (f : Int)) (g : Nat) (h5 : room = (f : Int) + g + 2) : Calls Tryz.prog 6 #[.int .i64 room, .int .i64 f] w fun r w' => r = .returned (.bool true) ∧ Below w.heap.size w w' := by
  have q0 := alive_any B E w hG hB
  have h3 : ¬ (f : Int) < 0 := by omega
  obtain ⟨mkw, hm1, hm2, hm3⟩ := made f (by omega)
  have hbb := room_b f room (by omega)
  have hcc := room_c f g room (by omega) (by omega)
  have hee := room_e f g room (by omega) (by omega)
  have hss := room_stat f g
  obtain ⟨mkv, hn1, hn2, hn3⟩ := made g (by omega)
  have hr1 : room - (f : Int) - 1 - 1 = (g : Int) := by omega
  have k5 : IntKind.i64.wrap (room - (f : Int)) = room - f := i64_id _ (by omega)
  have k6 : IntKind.i64.wrap (room - (f : Int) - 1) = room - f - 1 := i64_id _ (by omega)
  have k7 : IntKind.i64.wrap (room - (f : Int) - 1 - 1) = room - f - 1 - 1 := i64_id _ (by omega)
  have h6 : ¬ room < (f : Int) + 1 := by omega
  have h7 : ¬ room - (f : Int) - 1 < 1 := by omega
  have hmr : ∀ W, (Instr.makeSlice 43 (.int .i64 (room - f - 1 - 1)) (.int .i64 (room - f - 1 - 1))).run Tryz.prog W = .ok (.slice (some ⟨W.heap.size, 0, none⟩) g g) (mkv W) := by rw [hr1]; exact hn1
  have hsg : room - (f : Int) - 1 - 1 = (g : Int) := hr1
  clear hn1
  have k0 : IntKind.i64.wrap ((f : Int) + 1) = (f : Int) + 1 := i64_id _ (by omega)
  have ha := room_a f room (by omega) (by omega)
  have hnw := room_new room (by omega) (by omega)
  have hfd := fun w => fld51 (g : Int) w
  have HS := hide' hsg
  clear h5 hr1 hsg
  go_enter Tryz.func6, Tryz.ntmps6
  go_wp2_with fail
  refine q0.mono ?_
  rintro r w1 ⟨rfl, hb1⟩
  have q1 := New_any B E (.slice none 0 0) [] 0 room w1 (.inl ⟨⟨_, _, rfl⟩, rfl⟩) (hG.keep (hb1.mono hB)) (Nat.le_trans hB hb1.size) (fun n hn => by cases hn)
  rw [hnw] at q1
  go_wp2_with fail
  refine q1.mono ?_
  rintro r w2 ⟨hb2, A, rfl, hf2⟩
  have hB2 := hb1.trans (hb2.mono hb1.size)
  have hf2 := hf2.mono (S' := fun i => w.heap.size ≤ i) fun i hi => Nat.le_trans hb1.size hi
  have he := fun w => eq_fs_nil A w
  go_wp2_with fail
  refine (num_any 0 _).mono ?_
  rintro r w3 ⟨rfl, rfl⟩
  have hb3 := hm3 w3
  have hB3 := hB2.trans (hb3.mono hB2.size)
  have q2 := Write_any B A E [] 0 room { data := #[97] } (zeros f) (.slice (some ⟨w3.heap.size, 0, none⟩) f f) false _ _ (hf2.below hb3) (hG.keep (hB3.mono hB)) (Nat.le_trans hB hB3.size) (fun i hi => Nat.le_trans hB hi) (by omega) (by decide) (hm2 w3) (by rw [zeros_len]; omega)
  rw [ha] at q2
  go_wp2_with fail
  refine q2.mono ?_
  intro r w4 hr
  obtain ⟨rfl, hf4, hb4⟩ := hr.from (fun i => Iff.rfl) hB3.size
  have hB4 := hB3.trans hb4
  have q3 := Write_any B A E [nA f] 1 room { data := #[98] } [] (.slice none 0 0) false _ _ hf4 (hG.keep (hB4.mono hB)) (Nat.le_trans hB hB4.size) (fun i hi => Nat.le_trans hB hi) (by omega) (by decide) (.inl ⟨rfl, rfl⟩) (by decide)
  rw [hbb] at q3
  go_wp2_with fail
  refine q3.mono ?_
  intro r w5 hr
  obtain ⟨rfl, hf5, hb5⟩ := hr.from (fun i => Iff.rfl) hB4.size
  have hB5 := hB4.trans hb5
  have hb7 := hn3 w5
  have hB7 := hB5.trans (hb7.mono hB5.size)
  have q5 := Write_any B A E [nA f, nB 2 []] 2 room { data := #[98] } (zeros g) (.slice (some ⟨w5.heap.size, 0, none⟩) g g) true _ _ (hf5.below hb7) (hG.keep (hB7.mono hB)) (Nat.le_trans hB hB7.size) (fun i hi => Nat.le_trans hB hi) (by omega) (by decide) (hn2 w5) (by rw [zeros_len]; have := HS.out; omega)
  rw [hcc] at q5
  go_wp2_with fail
  refine q5.mono ?_
  intro r w8 hr
  obtain ⟨rfl, hf8, hb8⟩ := hr.from (fun i => Iff.rfl) hB7.size
  have hB8 := hB7.trans hb8
  have hb9 : Below w8.heap.size w8 (w8.alloc (.cells #[.int .u8 1] 5)) := (Below.refl _ _).alloc (Nat.le_refl _) _
  have hB9 := hB8.trans (hb9.mono hB8.size)
  have hrd9 : Rds (w8.alloc (.cells #[.int .u8 1] 5)) (.slice (some ⟨w8.heap.size, 0, none⟩) 1 1) [1] := by
    refine .inr ⟨⟨w8.heap.size, 0, none⟩, 1, rfl, fun _ => by simp, fun j u hj => ?_⟩
    rw [add_zero, Lib.cell_of_heap (alloc_new w8 _)]
    rcases j with _ | j
    · cases hj; rfl
    · simp [Lib.byteCells] at hj
  have q6 := Write_any B A E [nA f, nB 3 (zeros g)] 3 room { data := #[98] } [1] (.slice (some ⟨w8.heap.size, 0, none⟩) 1 1) true _ _ (hf8.below hb9) (hG.keep (hB9.mono hB)) (Nat.le_trans hB hB9.size) (fun i hi => Nat.le_trans hB hi) (by omega) (by decide) hrd9 (by decide)
  rw [hee] at q6
  go_wp2_with fail
  refine q6.mono ?_
  intro r w10 hr
  obtain ⟨rfl, hf10, hb10⟩ := hr.from (fun i => Iff.rfl) hB9.size
  have hB10 := hB9.trans hb10
  have q7 := Stat_any B A E [nA f, nB 3 (zeros g)] 3 room { data := #[98] } _ _ hf10 (hG.keep (hB10.mono hB)) (Nat.le_trans hB hB10.size) (by decide)
  rw [hss] at q7
  go_wp2_with fail
  refine (num_any _ _).mono ?_
  rintro r w11 ⟨rfl, rfl⟩
  go_wp2_with fail
  refine (num_any _ _).mono ?_
  rintro r w12 ⟨rfl, rfl⟩
  go_wp2_with fail
  refine (num_any _ _).mono ?_
  rintro r w13 ⟨rfl, rfl⟩
  go_wp2_with fail
  refine (num_any _ _).mono ?_
  rintro r w14 ⟨rfl, rfl⟩
  go_wp2_with fail
  refine q7.mono ?_
  rintro r w15 ⟨rfl, hb15⟩
  unfold statV
  have hsg := HS.out
  have hsd : decide ((g : Int) = room - f - 1 - 1) = true := decide_eq_true hsg.symm
  go_wp2
  go_ret
  exact ⟨rfl, hB10.trans (hb15.mono hB10.size)⟩
end Go.Proofs.YtamohpcdchhbbaaGreatDoor
