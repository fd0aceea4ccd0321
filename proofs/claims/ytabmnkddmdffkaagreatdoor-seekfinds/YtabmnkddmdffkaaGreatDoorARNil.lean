import Derived.Test.YtabmnkddmdffkaaGreatDoorARWrite
import Derived.Test.YtabmnkddmdffkaaGreatDoorARCvt
import Derived.ScopeJumps
namespace Go.Proofs.YtabmnkddmdffkaaGreatDoor.Arc
open Go.RowKit Go.Maps Go.Shelf
set_option maxRecDepth 100000 in
set_option maxHeartbeats 2000000 in
theorem parsed_nil (w : World) : Calls Tryz.prog 115 #[.slice none 0 0] w fun r w' => (∃ e, r = .returned (.tuple #[.slice none 0 0, e]) ∧ IsE w' e 20) ∧ Below w.heap.size w w' := by
 have hcv := Lib.run_convert_bytes_const (P := Tryz.prog) w 57 5 #[.int .u8 33, .int .u8 60, .int .u8 97, .int .u8 114, .int .u8 99, .int .u8 104, .int .u8 62, .int .u8 10] 8 8 Tryz.underlying57 Tryz.underlying5
 have hb : ∀ o, Below w.heap.size w (w.alloc o) := fun o => (Below.refl _ _).alloc (Nat.le_refl _) o
 go_enter Tryz.func115, Tryz.ntmps115
 go_wp2
 refine wp_scope_jumps 0 (fun a' w' => Below w.heap.size w w' ∧ ∃ u1 u2 u3 u4 u5 u7 u8 u9 u10 u11 u12 u13 u14 u15 u16 u17 u18 u19 u20 u21 u22 u23 u24 u25 u26 u27 u28 u29 u30 u31 u32 u33 u34 u35 u36 u37 u38 u39 u40 u41 u42 u43 u44 u45 u46 u47 u48 u49 u50 u51 u52 u53 u54 u55 u56 u57 u58 u59 u60 u61 u62 u63 u64 u65 u66 u67 u68 u69 u70 u71 u72 u73 u74 u75 u76 u77 u78 u79 : Value, a' = ⟨#[.slice none 0 0, u1, u2, u3, u4, u5, .slice none 0 0, u7, u8, u9, u10, u11, u12, u13, u14, u15, u16, u17, u18, u19, u20, u21, u22, u23, u24, u25, u26, u27, u28, u29, u30, u31, u32, u33, u34, u35, u36, u37, u38, u39, u40, u41, u42, u43, u44, u45, u46, u47, u48, u49, u50, u51, u52, u53, u54, u55, u56, u57, u58, u59, u60, u61, u62, u63, u64, u65, u66, u67, u68, u69, u70, u71, u72, u73, u74, u75, u76, u77, u78, u79], []⟩) (fun _ _ => 0) rfl ?_ ?_
 ·go_wp2_with (go_at_call 142; refine (Tryz.bytes_HasPrefix_e1 none _ 0 8 8 (by decide) _).mono ?_; rintro r w1 ⟨rfl, rfl⟩)
  go_step3
  exact ⟨rfl, hb _, _, _, _, _, _, _, _, _, _, _, _, _, _, _, _, _, _, _, _, _, _, _, _, _, _, _, _, _, _, _, _, _, _, _, _, _, _, _, _, _, _, _, _, _, _, _, _, _, _, _, _, _, _, _, _, _, _, _, _, _, _, _, _, _, _, _, _, _, _, _, _, _, _, _, _, _, _, _, rfl⟩
 ·rintro a' w' ⟨hB, u1, u2, u3, u4, u5, u7, u8, u9, u10, u11, u12, u13, u14, u15, u16, u17, u18, u19, u20, u21, u22, u23, u24, u25, u26, u27, u28, u29, u30, u31, u32, u33, u34, u35, u36, u37, u38, u39, u40, u41, u42, u43, u44, u45, u46, u47, u48, u49, u50, u51, u52, u53, u54, u55, u56, u57, u58, u59, u60, u61, u62, u63, u64, u65, u66, u67, u68, u69, u70, u71, u72, u73, u74, u75, u76, u77, u78, u79, rfl⟩
  go_wp2
  simp only [Exit.jump]
  go_ret2
  exact ⟨⟨_, rfl, .inr ⟨by decide, _, _, rfl, alloc_new _ _⟩⟩, hB.alloc hB.size _⟩
set_option maxRecDepth 100000 in
set_option maxHeartbeats 1000000 in
theorem Parse_nil (w : World) : Calls Tryz.prog 90 #[.slice none 0 0] w fun r w' => r = .returned (.tuple #[.slice none 0 0, .int .i64 20]) ∧ Below w.heap.size w w' := by
 have q := parsed_nil w
 go_enter Tryz.func90, Tryz.ntmps90
 go_wp2_with fail
 refine q.mono ?_
 rintro r w1 ⟨⟨e, rfl, he⟩, hb⟩
 have qn := number_any e 20 w1 he (by simp)
 go_wp2_with fail
 refine qn.mono ?_
 rintro r w2 ⟨rfl, rfl⟩
 go_wp2
 go_ret2
 exact ⟨rfl, hb⟩
end Go.Proofs.YtabmnkddmdffkaaGreatDoor.Arc
