/- The contract of the law's alive. -/
import Derived.Test.YthkjinhnnilalaaGreatDoorMk
import Derived.Test.YthkjinhnnilalaaGreatDoorTake
namespace Go.Proofs.YthkjinhnnilalaaGreatDoor
open Go.RowKit Go.Shelf

set_option maxRecDepth 100000 in
theorem tk1 : takeB ⟨#[120, 32, 121, 32, 58, 32, 122, 32, 59, 32, 101, 99, 104, 111, 32, 97, 59, 98]⟩ = ⟨2, ⟨#[120, 32, 121, 32]⟩, ⟨#[32, 122, 32]⟩, ⟨#[]⟩, ⟨#[101, 99, 104, 111, 32, 97, 59, 98]⟩, 0, false, true⟩ := by kernel_rfl
set_option maxRecDepth 100000 in
theorem tk2 : takeB ⟨#[97, 32, 58, 58, 61, 32, 36, 40, 98, 58, 99, 61, 100, 41]⟩ = ⟨1, ⟨#[97]⟩, ⟨#[36, 40, 98, 58, 99, 61, 100, 41]⟩, ⟨#[]⟩, ⟨#[]⟩, 2, false, false⟩ := by kernel_rfl
theorem num_any (k : Int) (w : World) : Calls Tryz.prog 15 #[.int .i64 k] w fun e w' => e = .returned (.int .i64 k) ∧ w' = w := by
  go_enter Tryz.func15, Tryz.ntmps15
  go_wp2
  go_ret
  exact ⟨rfl, rfl⟩
set_option maxRecDepth 100000 in
theorem mk1 (w : World) : Calls Tryz.prog 14 #[.string ⟨#[97, 46, 111, 32, 98, 46, 111]⟩, .string ⟨#[37, 46, 111, 32, 58, 32, 37, 46, 99, 32, 124, 32, 100]⟩, .bool false] w fun e w' => (∃ b cap g3 a1 c1 a2 c2, e = .returned (.tuple #[.agg #[.slice (some ⟨b, 0, none⟩) 2 cap, .slice (some ⟨g3, 0, none⟩) 1 1, .slice a1 1 c1, .bool false, .bool false, .bool false, .string ⟨#[37, 46, 111]⟩, .slice none 0 0, .bool false, .string ⟨#[]⟩, .bool false], .slice a2 2 c2, .int .i64 0])) ∧ Below w.heap.size w w' :=
  make_static ⟨#[97, 46, 111, 32, 98, 46, 111]⟩ ⟨#[37, 46, 111, 32, 58, 32, 37, 46, 99, 32, 124, 32, 100]⟩ [⟨#[97, 46, 111]⟩, ⟨#[98, 46, 111]⟩] [⟨#[37, 46, 111]⟩, ⟨#[58]⟩, ⟨#[37, 46, 99]⟩, ⟨#[124]⟩, ⟨#[100]⟩] [⟨#[37, 46, 99]⟩, ⟨#[124]⟩, ⟨#[100]⟩] ⟨#[37, 46, 111]⟩ 1 w (by kernel_rfl) (by decide) (by decide) (by kernel_rfl) (by kernel_rfl) (by decide) (fun x hx => by
    rcases (by simpa using hx : x = ⟨#[97, 46, 111]⟩ ∨ x = ⟨#[98, 46, 111]⟩) with rfl | rfl <;> (unfold nbr; kernel_rfl)) (fun x hx => by
    have hx' : x ∈ [⟨#[97, 46, 111]⟩, ⟨#[98, 46, 111]⟩] := by
      rw [show ([⟨#[97, 46, 111]⟩, ⟨#[98, 46, 111]⟩] : List ByteArray).map nmB = [⟨#[97, 46, 111]⟩, ⟨#[98, 46, 111]⟩] by kernel_rfl] at hx
      exact hx
    rcases (by simpa using hx' : x = ⟨#[97, 46, 111]⟩ ∨ x = ⟨#[98, 46, 111]⟩) with rfl | rfl
    · exact ⟨by decide, by kernel_rfl, by kernel_rfl⟩
    · exact ⟨by decide, by kernel_rfl, by kernel_rfl⟩) (by decide) (fun x hx => by
    rcases (by simpa using hx : x = ⟨#[37, 46, 111]⟩ ∨ x = ⟨#[58]⟩ ∨ x = ⟨#[37, 46, 99]⟩ ∨ x = ⟨#[124]⟩ ∨ x = ⟨#[100]⟩) with rfl | rfl | rfl | rfl | rfl <;> (unfold nbr; kernel_rfl)) rfl (by kernel_rfl) (by kernel_rfl) (by decide) (by kernel_rfl) (by decide) (by kernel_rfl) (fun j hj => by
    have hj0 : j = 0 := Nat.lt_one_iff.1 hj
    rw [hj0]
    decide +kernel)
set_option maxRecDepth 100000 in
set_option maxHeartbeats 4000000 in
theorem alive_any (w : World) : Calls Tryz.prog 5 #[] w fun e w' => e = .returned (.bool true) ∧ Below w.heap.size w w' := by
  have k1 := take_any ⟨#[120, 32, 121, 32, 58, 32, 122, 32, 59, 32, 101, 99, 104, 111, 32, 97, 59, 98]⟩ (by decide) w
  have k2 := fun w => take_any ⟨#[97, 32, 58, 58, 61, 32, 36, 40, 98, 58, 99, 61, 100, 41]⟩ (by decide) w
  rw [tk1] at k1
  rw [tk2] at k2
  simp only [hv] at k1 k2
  have k3 := mk1
  have kn := num_any
  go_enter Tryz.func5, Tryz.ntmps5
  go_upto_region 2 with (go_at_call 16; refine k1.mono ?_; rintro e w1 ⟨rfl, hb1⟩)
  have hy1 := bx8_at w1 2 ⟨#[120, 32, 121, 32]⟩ ⟨#[32, 122, 32]⟩ ⟨#[]⟩ ⟨#[101, 99, 104, 111, 32, 97, 59, 98]⟩ 0 false true
  have hB1 := hb1.alloc hb1.size (.cells #[.int .i64 2, .string ⟨#[120, 32, 121, 32]⟩, .string ⟨#[32, 122, 32]⟩, .string ⟨#[]⟩, .string ⟨#[101, 99, 104, 111, 32, 97, 59, 98]⟩, .int .i64 0, .bool false, .bool true] 36)
  generalize hA1 : w1.heap.size = A1 at hy1
  generalize hW1 : w1.alloc (.cells #[.int .i64 2, .string ⟨#[120, 32, 121, 32]⟩, .string ⟨#[32, 122, 32]⟩, .string ⟨#[]⟩, .string ⟨#[101, 99, 104, 111, 32, 97, 59, 98]⟩, .int .i64 0, .bool false, .bool true] 36) = W1 at hy1 hB1
  have HA1 := hide' hA1
  have HW1 := hide' hW1
  clear hA1 hW1 k1 hb1
  go_upto_region 3 with (go_at_call 16; refine (k2 _).mono ?_; rintro e w2 ⟨rfl, hb2⟩)
  have hy12 := (hy1.below hb2).alloc (.cells #[.int .i64 1, .string ⟨#[97]⟩, .string ⟨#[36, 40, 98, 58, 99, 61, 100, 41]⟩, .string ⟨#[]⟩, .string ⟨#[]⟩, .int .i64 2, .bool false, .bool false] 36)
  have hy2 := bx8_at w2 1 ⟨#[97]⟩ ⟨#[36, 40, 98, 58, 99, 61, 100, 41]⟩ ⟨#[]⟩ ⟨#[]⟩ 2 false false
  have hB2a := hB1.trans (hb2.mono hB1.size)
  have hB2 := hB2a.alloc hB2a.size (.cells #[.int .i64 1, .string ⟨#[97]⟩, .string ⟨#[36, 40, 98, 58, 99, 61, 100, 41]⟩, .string ⟨#[]⟩, .string ⟨#[]⟩, .int .i64 2, .bool false, .bool false] 36)
  generalize hA2 : w2.heap.size = A2 at hy2
  generalize hW2 : w2.alloc (.cells #[.int .i64 1, .string ⟨#[97]⟩, .string ⟨#[36, 40, 98, 58, 99, 61, 100, 41]⟩, .string ⟨#[]⟩, .string ⟨#[]⟩, .int .i64 2, .bool false, .bool false] 36) = W2 at hy12 hy2 hB2
  have HA2 := hide' hA2
  have HW2 := hide' hW2
  clear hA2 hW2 k2 hb2 hy1 hB1 hB2a
  go_upto_region 4 with (go_at_call 14; refine (k3 _).mono ?_; rintro e w3 ⟨⟨b, cap, g3, a1, c1, a2, c2, rfl⟩, hb3⟩)
  have hy13 := (hy12.below hb3).alloc (.cells #[.slice (some ⟨b, 0, none⟩) 2 cap, .slice (some ⟨g3, 0, none⟩) 1 1, .slice a1 1 c1, .bool false, .bool false, .bool false, .string ⟨#[37, 46, 111]⟩, .slice none 0 0, .bool false, .string ⟨#[]⟩, .bool false] 29)
  have hy23 := (hy2.below hb3).alloc (.cells #[.slice (some ⟨b, 0, none⟩) 2 cap, .slice (some ⟨g3, 0, none⟩) 1 1, .slice a1 1 c1, .bool false, .bool false, .bool false, .string ⟨#[37, 46, 111]⟩, .slice none 0 0, .bool false, .string ⟨#[]⟩, .bool false] 29)
  have hz3 := bx11_at w3 (.slice (some ⟨b, 0, none⟩) 2 cap) (.slice (some ⟨g3, 0, none⟩) 1 1) (.slice a1 1 c1) (.bool false) (.bool false) (.bool false) (.string ⟨#[37, 46, 111]⟩) (.slice none 0 0) (.bool false) (.string ⟨#[]⟩) (.bool false)
  have hB3a := hB2.trans (hb3.mono hB2.size)
  have hB3 := hB3a.alloc hB3a.size (.cells #[.slice (some ⟨b, 0, none⟩) 2 cap, .slice (some ⟨g3, 0, none⟩) 1 1, .slice a1 1 c1, .bool false, .bool false, .bool false, .string ⟨#[37, 46, 111]⟩, .slice none 0 0, .bool false, .string ⟨#[]⟩, .bool false] 29)
  generalize hA3 : w3.heap.size = A3 at hz3
  generalize hW3 : w3.alloc (.cells #[.slice (some ⟨b, 0, none⟩) 2 cap, .slice (some ⟨g3, 0, none⟩) 1 1, .slice a1 1 c1, .bool false, .bool false, .bool false, .string ⟨#[37, 46, 111]⟩, .slice none 0 0, .bool false, .string ⟨#[]⟩, .bool false] 29) = W3 at hy13 hy23 hz3 hB3
  have HA3 := hide' hA3
  have HW3 := hide' hW3
  have ac0 := hy13.c0
  have af0 := hy13.fz 0
  have ac1 := hy13.c1
  have af1 := hy13.fz 1
  have ac2 := hy13.c2
  have af2 := hy13.fz 2
  have ac3 := hy13.c3
  have af3 := hy13.fz 3
  have ac4 := hy13.c4
  have af4 := hy13.fz 4
  have ac5 := hy13.c5
  have af5 := hy13.fz 5
  have ac6 := hy13.c6
  have af6 := hy13.fz 6
  have ac7 := hy13.c7
  have af7 := hy13.fz 7
  have bc0 := hy23.c0
  have bf0 := hy23.fz 0
  have bc1 := hy23.c1
  have bf1 := hy23.fz 1
  have bc2 := hy23.c2
  have bf2 := hy23.fz 2
  have bc3 := hy23.c3
  have bf3 := hy23.fz 3
  have bc4 := hy23.c4
  have bf4 := hy23.fz 4
  have bc5 := hy23.c5
  have bf5 := hy23.fz 5
  have bc6 := hy23.c6
  have bf6 := hy23.fz 6
  have bc7 := hy23.c7
  have bf7 := hy23.fz 7
  have rc0 := hz3.c0
  have rc1 := hz3.c1
  have rc2 := hz3.c2
  have rc3 := hz3.c3
  have rc4 := hz3.c4
  have rc5 := hz3.c5
  have rc6 := hz3.c6
  have rc7 := hz3.c7
  have rc8 := hz3.c8
  have rc9 := hz3.c9
  have rc10 := hz3.c10
  clear hA3 hW3 k3 hb3 hy12 hy2 hB2 hB3a hy13 hy23 hz3
  go_wp2_with (go_at_call 15; refine (kn _ _).mono ?_; rintro e w4 ⟨rfl, rfl⟩)
  go_ret
  exact ⟨rfl, hB3⟩
end Go.Proofs.YthkjinhnnilalaaGreatDoor
