/- The contract of rule.cut at the words that the laws hand it. -/
import Derived.Test.YthkjinhnnilalaaGreatDoorDr
import Derived.Deep.AppendSrc
namespace Go.Proofs.YthkjinhnnilalaaGreatDoor
open Go.RowKit Go.Shelf

theorem drn (w : World) (a b : Nat) : (w.drewN a).drewN b = w.drewN (a + b) := by simp [World.drewN, Nat.add_assoc]
theorem col_a : (⟨#[58]⟩ : ByteArray).extract 0 0 = ⟨#[]⟩ := tl_inj _ _ (by rw [ext_take]; rfl)
theorem col_b : (⟨#[58]⟩ : ByteArray).extract (0 + 1) (⟨#[58]⟩ : ByteArray).size = ⟨#[]⟩ := tl_inj _ _ (by rw [ext_drop]; rfl)
theorem sls_to (a : Addr) (n cap i : Nat) (hi : i ≤ n) (hn : n ≤ cap) (W : World) : (Instr.slice 22 (.slice (some a) n cap) none (some (.int .i64 i)) (some (.int .i64 i))).run Tryz.prog W = .ok (.slice (some a) i i) W := by
  have h1 : (i : Int) ≤ (cap : Int) := by omega
  have h2 : (0 : Int) ≤ (i : Int) := by omega
  go_simp
theorem sls_from (b off n cap i : Nat) (hi : i ≤ n) (hn : n ≤ cap) (hc : ¬ cap = i) (W : World) : (Instr.slice 22 (.slice (some ⟨b, off, none⟩) n cap) (some (.int .i64 i)) none none).run Tryz.prog W = .ok (.slice (some ⟨b, off + i, none⟩) (n - i) (cap - i)) W := by
  have h1 : (i : Int) ≤ (n : Int) := by omega
  have h2 : (0 : Int) ≤ (i : Int) := by omega
  have h3 : (n : Int) ≤ (cap : Int) := by omega
  go_simp
theorem app_none (b off i : Nat) (ty : TypeId) (W : World) : (Builtin.append_ #[22, 22] ty #[.slice (some ⟨b, off, none⟩) i i, .slice none 0 0]).run Tryz.prog W = .ok (.slice (some ⟨b, off, none⟩) i i) W := by
  obtain ⟨i0, hi, hz0, hz1, hz2⟩ := info_parts info9
  exact run_append_room_src (P := Tryz.prog) W 22 22 ty 9 i0 Tryz.underlying22 hi b off i i (.slice none 0 0) 0 [] (Src.ofNil (w := W) Tryz.underlying22 0) (by omega) (fun j hj => by simp at hj) (fun j hj => by simp at hj)
/-- the words from a place on, as what is appended -/
theorem tail_news {W : World} {L : List ByteArray} {b off : Nat} (hc : ∀ j, j < L.length → W.cell? ⟨b, off + j, none⟩ = some (.string (L.getD j ⟨#[]⟩))) (i : Nat) : ∀ j u, ((L.drop i).map Value.string)[j]? = some u → W.cell? ((⟨b, off + i, none⟩ : Addr).add j) = some u := by
  intro j u h
  rw [List.getElem?_map, List.getElem?_drop] at h
  obtain ⟨x, hx, rfl⟩ := Option.map_eq_some_iff.1 h
  have hj := (List.getElem?_eq_some_iff.1 hx).1
  rw [Addr.add_lit, Nat.add_assoc]
  have := hc (i + j) hj
  rw [List.getD_eq_getElem?_getD, hx] at this
  exact this
set_option maxRecDepth 100000 in
set_option maxHeartbeats 2000000 in
/-- cut, where no word has a colon -/
theorem cut_none (L : List ByteArray) (b off cap : Nat) (w : World) (hl : L.length ≤ 100000) (hs : ∀ x ∈ L, x.size ≤ 1000000 ∧ nbr (tl x)) (hc : ∀ j, j < L.length → w.cell? ⟨b, off + j, none⟩ = some (.string (L.getD j ⟨#[]⟩))) (hn : ∀ x ∈ L, Lib.indexByte (tl x) 58 = -1) :
    Calls Tryz.prog 47 #[.slice (some ⟨b, off, none⟩) L.length cap] w fun e w' => e = .returned (.tuple #[.slice none 0 0, .slice none 0 0, .bool false]) ∧ ∃ q, w' = w.drewN q := by
  go_enter Tryz.func47, Tryz.ntmps47
  go_wp2
  go_loopw [12] (fun i wr => ∃ k q : Nat, k ≤ L.length ∧ i = .int .i64 k ∧ wr = w.drewN q) (fun i _ => L.length - (intOf i).toNat)
  case atStart => exact ⟨0, 0, Nat.zero_le _, rfl, rfl⟩
  case round =>
    obtain ⟨k, q, hk, rfl, hwr⟩ := hrel
    by_cases hlt : k < L.length
    · have cc : wr.cell? ⟨b, off + k, none⟩ = some (.string (L.getD k ⟨#[]⟩)) := by rw [hwr]; exact hc k hlt
      have hm : L.getD k ⟨#[]⟩ ∈ L := by rw [List.getD_eq_getElem?_getD, List.getElem?_eq_getElem hlt]; exact List.getElem_mem hlt
      have hx := hs _ hm
      have hy := hn _ hm
      generalize L.getD k ⟨#[]⟩ = x at cc hx hy
      have k1 := fun w => has40_no x w hx.2
      have k2 := fun w => cuts_no 58 x w hy
      have HWR := hide' hwr
      clear hc hs hn hx hy hwr hm
      go_wp2_with (first | (go_at_call 65; refine (k1 _).mono ?_; rintro e w1 ⟨rfl, rfl⟩) | (go_at_call 22; refine (k2 _).mono ?_; rintro e w2 ⟨rfl, q2, hw2⟩; have HW2 := hide' hw2; clear hw2))
      exact ⟨⟨k + 1, q + q2, by omega, by go_num, by rw [HW2.out, HWR.out]; exact drn _ _ _⟩, by simp [intOf]; omega⟩
    · clear hc hs hn
      go_wp2
      go_ret3
      exact ⟨rfl, q, by first | rfl | exact hwr⟩
set_option maxRecDepth 100000 in
set_option maxHeartbeats 4000000 in
/-- cut, where the first word with a colon is a colon alone -/
theorem cut_bare (L : List ByteArray) (b off cap : Nat) (w : World) (hl : L.length ≤ 100000) (hcap : L.length ≤ cap) (hs : ∀ x ∈ L, x.size ≤ 1000000 ∧ nbr (tl x)) (hc : ∀ j, j < L.length → w.cell? ⟨b, off + j, none⟩ = some (.string (L.getD j ⟨#[]⟩))) (i : Nat) (hil : i < L.length) (hin : i + 1 < L.length) (hi58 : L.getD i ⟨#[]⟩ = ⟨#[58]⟩) (hn : ∀ j, j < i → Lib.indexByte (tl (L.getD j ⟨#[]⟩)) 58 = -1) :
    Calls Tryz.prog 47 #[.slice (some ⟨b, off, none⟩) L.length cap] w fun e w' => ∃ vb, e = .returned (.tuple #[.slice (some ⟨b, off, none⟩) i i, vb, .bool true]) ∧ w'.ownsRow w.heap.size 9 1 vb (L.length - (i + 1)) ((L.drop (i + 1)).map Value.string) ∧ Below w.heap.size w w' := by
  obtain ⟨i0, hi, hz0, hz1, hz2⟩ := info_parts info9
  go_enter Tryz.func47, Tryz.ntmps47
  go_wp2
  go_loopw [12] (fun y wr => ∃ k q : Nat, k ≤ i ∧ y = .int .i64 k ∧ wr = w.drewN q) (fun y _ => i - (intOf y).toNat)
  case atStart => exact ⟨0, 0, Nat.zero_le _, rfl, rfl⟩
  case round =>
    obtain ⟨k, q, hk, rfl, hwr⟩ := hrel
    have hlt : k < L.length := by omega
    have hcr : ∀ j, j < L.length → wr.cell? ⟨b, off + j, none⟩ = some (.string (L.getD j ⟨#[]⟩)) := fun j hj => by rw [hwr]; exact hc j hj
    have cc := hcr k hlt
    have hm : L.getD k ⟨#[]⟩ ∈ L := by rw [List.getD_eq_getElem?_getD, List.getElem?_eq_getElem hlt]; exact List.getElem_mem hlt
    have hx := hs _ hm
    by_cases hki : k < i
    · have hy := hn k hki
      generalize L.getD k ⟨#[]⟩ = x at cc hx hy
      have k1 := fun w => has40_no x w hx.2
      have k2 := fun w => cuts_no 58 x w hy
      have HWR := hide' hwr
      clear hc hs hn hx hy hwr hm hcr hcap
      go_wp2_with (first | (go_at_call 65; refine (k1 _).mono ?_; rintro e w1 ⟨rfl, rfl⟩) | (go_at_call 22; refine (k2 _).mono ?_; rintro e w2 ⟨rfl, q2, hw2⟩; have HW2 := hide' hw2; clear hw2))
      exact ⟨⟨k + 1, q + q2, by omega, by go_num, by rw [HW2.out, HWR.out]; exact drn _ _ _⟩, by simp [intOf]; omega⟩
    · obtain rfl : k = i := by omega
      obtain ⟨x, hxx⟩ : ∃ x : ByteArray, x = ⟨#[58]⟩ := ⟨_, rfl⟩
      have k2 : ∀ w, Calls Tryz.prog 22 #[.string x, .string ⟨#[58]⟩] w fun e w' => e = .returned (.tuple #[.string ⟨#[]⟩, .string ⟨#[]⟩, .bool true]) ∧ ∃ n, w' = w.drewN n := fun w => by
        rw [hxx]
        have h9 := cuts_yes 58 ⟨#[58]⟩ 0 w (by decide) (by decide) (by kernel_rfl)
        rw [col_a, col_b] at h9
        exact h9
      rw [hi58, ← hxx] at cc hx
      clear hxx hi58
      have k1 := fun w => has40_no x w hx.2
      have HWR := hide' hwr
      have HCR := hide' hcr
      have HL := hide' hl
      have HCP := hide' hcap
      clear hc hs hn hx hwr hm hcr hl hcap hki
      go_wp2_with (first | (go_at_call 65; refine (k1 _).mono ?_; rintro e w1 ⟨rfl, rfl⟩) | (go_at_call 22; refine (k2 _).mono ?_; rintro e w2 ⟨rfl, q2, hw2⟩; have HW2 := hide' hw2; clear hw2))
      have hB2 : Below w.heap.size w w2 := by rw [HW2.out, HWR.out]; exact (below_drewn q).trans (below_drewn q2)
      have hc2 : ∀ j, j < L.length → w2.cell? ⟨b, off + j, none⟩ = some (.string (L.getD j ⟨#[]⟩)) := fun j hj => by rw [HW2.out]; exact HCR.out j hj
      have HC2 := hide' hc2
      clear hc2
      have hlK := HL.out
      have hcK := HCP.out
      have hsl3 := sls_to ⟨b, off, none⟩ L.length cap k (by omega) hcK
      have hslf := sls_from b off L.length cap (k + 1) (by omega) hcK (by omega)
      rw [show ((k + 1 : Nat) : Int) = (k : Int) + 1 by omega] at hslf
      have hwk : IntKind.i64.wrap ((k : Int) + 1) = (k : Int) + 1 := i64_id _ ⟨by omega, by omega⟩
      have hap := app_none b off k
      have kNil := some_nil
      clear hlK hcK
      refine wp_region_classX [] (C := TrC) (by kernel_rfl) ?_
      (refine wpAnyX_take (i := 0) (v := ?_) (tr_c _) rfl (by kernel_rfl) (by kernel_rfl) (by kernel_rfl) (by kernel_rfl) (fun _ _ _ h => h) (Or.inl ⟨by kernel_rfl, ?_⟩) ?_; rotate_left; (intro w hc; clear hc; go_simp; try with_reducible rfl))
      go_simp
      (refine wpAnyX_take (i := 1) (v := ?_) (tr_c _) rfl (by kernel_rfl) (by kernel_rfl) (by kernel_rfl) (by kernel_rfl) (fun _ _ _ h => h) (Or.inl ⟨by kernel_rfl, ?_⟩) ?_; rotate_left; (intro w hc; clear hc; go_simp; try with_reducible rfl))
      go_simp
      (refine wpAnyX_take (i := 2) (v := ?_) (tr_c _) rfl (by kernel_rfl) (by kernel_rfl) (by kernel_rfl) (by kernel_rfl) (fun _ _ _ h => h) (Or.inl ⟨by kernel_rfl, ?_⟩) ?_; rotate_left; (intro w hc; clear hc; go_simp; try with_reducible rfl))
      go_simp
      (refine wpAnyX_take (i := 3) (v := ?_) (tr_c _) rfl (by kernel_rfl) (by kernel_rfl) (by kernel_rfl) (by kernel_rfl) (fun _ _ _ h => h) (Or.inl ⟨by kernel_rfl, ?_⟩) ?_; rotate_left; (intro w hc; clear hc; go_simp; try with_reducible rfl))
      go_simp
      (refine wpAnyX_take (i := 4) (v := ?_) (tr_c _) rfl (by kernel_rfl) (by kernel_rfl) (by kernel_rfl) (by kernel_rfl) (fun _ _ _ h => h) (Or.inl ⟨by kernel_rfl, ?_⟩) ?_; rotate_left; (intro w hc; clear hc; go_simp; try with_reducible rfl))
      go_simp
      refine wpAnyX_one (i := 5) (by kernel_rfl) (wpOp_wanted rfl (by rfl) ?_)
      go_simp
      refine (kNil _).mono ?_
      rintro e w3 ⟨rfl, rfl⟩
      (first | refine ⟨fun _ => tr_c _, ?_⟩ | refine ⟨tr_c _, ?_⟩)
      refine wpAnyX_one (i := 6) (by kernel_rfl) (wpOp_wanted rfl (by rfl) ?_)
      go_simp
      (first | refine ⟨fun _ => tr_c _, ?_⟩ | refine ⟨tr_c _, ?_⟩)
      refine wpAnyX_one (i := 7) (by kernel_rfl) (wpOp_wanted rfl (by rfl) ?_)
      go_simp
      (first | refine ⟨fun _ => tr_c _, ?_⟩ | refine ⟨tr_c _, ?_⟩)
      refine wpAnyX_done (by kernel_rfl) ?_ _
      go_wp2_with fail
      have HC5 : Hid (∀ j, j < L.length → w2.drew.drew.cell? ⟨b, off + j, none⟩ = some (.string (L.getD j ⟨#[]⟩))) := HC2
      have hB5 : Below w.heap.size w w2.drew.drew := hB2.trans (below_drewn 2)
      refine wp_region_classX [] (C := TrC) (by kernel_rfl) ?_
      (refine wpAnyX_take (i := 0) (v := ?_) (tr_c _) rfl (by kernel_rfl) (by kernel_rfl) (by kernel_rfl) (by kernel_rfl) (fun _ _ _ h => h) (Or.inl ⟨by kernel_rfl, ?_⟩) ?_; rotate_left; (intro w hc; clear hc; go_simp; try with_reducible rfl))
      go_simp
      (refine wpAnyX_take (i := 2) (v := ?_) (tr_c _) rfl (by kernel_rfl) (by kernel_rfl) (by kernel_rfl) (by kernel_rfl) (fun _ _ _ h => h) (Or.inl ⟨by kernel_rfl, ?_⟩) ?_; rotate_left; (intro w hc; clear hc; go_simp; try with_reducible rfl))
      go_simp
      (refine wpAnyX_take (i := 3) (v := ?_) (tr_c _) rfl (by kernel_rfl) (by kernel_rfl) (by kernel_rfl) (by kernel_rfl) (fun _ _ _ h => h) (Or.inl ⟨by kernel_rfl, ?_⟩) ?_; rotate_left; (intro w hc; clear hc; go_simp; try with_reducible rfl))
      go_simp
      (refine wpAnyX_take (i := 4) (v := ?_) (tr_c _) rfl (by kernel_rfl) (by kernel_rfl) (by kernel_rfl) (by kernel_rfl) (fun _ _ _ h => h) (Or.inl ⟨by kernel_rfl, ?_⟩) ?_; rotate_left; (intro w hc; clear hc; go_simp; try with_reducible rfl))
      go_simp
      (refine wpAnyX_take (i := 5) (v := ?_) (tr_c _) rfl (by kernel_rfl) (by kernel_rfl) (by kernel_rfl) (by kernel_rfl) (fun _ _ _ h => h) (Or.inl ⟨by kernel_rfl, ?_⟩) ?_; rotate_left; (intro w hc; clear hc; go_simp; try with_reducible rfl))
      go_simp
      refine wpAnyX_one (i := 1) (by kernel_rfl) (wpOp_wanted rfl (by rfl) ?_)
      go_simp
      refine (kNil _).mono ?_
      rintro e w5 ⟨rfl, rfl⟩
      (first | refine ⟨fun _ => tr_c _, ?_⟩ | refine ⟨tr_c _, ?_⟩)
      have hnw := tail_news HC5.out (k + 1)
      have HLL := HL.out
      have HCC := HCP.out
      refine wpAnyX_one (i := 6) (by kernel_rfl) (wpOp_wanted rfl (by rfl) ?_)
      refine wp_append_own _ _ _ 22 rfl w.heap.size 9 i0 (.string ⟨#[]⟩) 1 16 Tryz.underlying22 hi hz0 hz1 hz2 rfl (by decide) (.slice none 0 0) 0 [] rfl (World.ownsRow_nil _ _ _ _) ⟨b, off + (k + 1), none⟩ (L.length - (k + 1)) (cap - (k + 1)) ((L.drop (k + 1)).map Value.string) rfl (by simp) hnw (fun u hu => by obtain ⟨y, _, rfl⟩ := List.mem_map.1 hu; rfl) (by unfold maxLen; omega) (by omega) hB5.size ?_
      intro v6 w6 hown6 hgrow6 hif6
      clear hif6
      (first | refine ⟨fun _ => tr_c _, ?_⟩ | refine ⟨tr_c _, ?_⟩)
      have hB6 : Below w.heap.size w w6 := hB5.grown hgrow6 hB5.size fun j ej => by cases ej
      have HO6 := hide' hown6
      obtain ⟨a6, c6, rfl⟩ := row_form hown6
      clear hown6 hgrow6 hnw HLL HCC
      refine wpAnyX_one (i := 7) (by kernel_rfl) (wpOp_wanted rfl (by rfl) ?_)
      go_simp
      (first | refine ⟨fun _ => tr_c _, ?_⟩ | refine ⟨tr_c _, ?_⟩)
      refine wpAnyX_done (by kernel_rfl) ?_ _
      go_wp2
      go_ret3
      refine ⟨_, rfl, ?_, hB6⟩
      have := HO6.out
      rw [Nat.zero_add, List.nil_append] at this
      exact this
end Go.Proofs.YthkjinhnnilalaaGreatDoor
