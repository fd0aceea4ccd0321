/- The contract of rule.parted where a bar stands among the words. -/
import Derived.Test.YthkjinhnnilalaaGreatDoorCut
import Derived.ScopeJumps
namespace Go.Proofs.YthkjinhnnilalaaGreatDoor
open Go.RowKit Go.Shelf

theorem wp_scope_at {P : Program} {a : Act} {w : World} {Q : Exit → Act → World → Prop} {c rest : Code} (l : Nat) (J : Act → World → Prop) (μ : Act → World → Nat) (hf : findLabel c l = some (.seq .skip rest))
    (pass : ∀ a w, J a w → rest.wp P (Exit.jump l (fun a' w' => J a' w' ∧ μ a' w' < μ a w) Q) a w)
    (first : (∀ a w, J a w → rest.wp P (Exit.jump l J Q) a w) → c.wp P (Exit.jump l J Q) a w) : (Code.scope c).wp P Q a w :=
  wp_scope_jumps l J μ hf (first fun a w h => wp_mono (pass a w h) (fun e a w q => by cases e <;> first | exact q | exact ⟨q.1, q.2.1⟩)) (fun a w h => wp_seq (wp_skip (pass a w h)))
/-- a bar -/
abbrev bar : ByteArray := ⟨#[124]⟩
/-- the way at its label: no bar among the first k words -/
def JB (w : World) (v : Value) (i : Nat) (a' : Act) (w' : World) : Prop :=
  w' = w ∧ ∃ (k : Nat) (u5 u6 u7 u8 u9 u10 u11 u12 u13 u14 u15 u16 u17 u18 u19 u20 u21 u22 u23 u24 u25 u26 u27 : Value), k ≤ i ∧ a' = { tmps := #[v, undef, .slice none 0 0, .slice none 0 0, .int .i64 k, u5, u6, u7, u8, u9, u10, u11, u12, u13, u14, u15, u16, u17, u18, u19, u20, u21, u22, u23, u24, u25, u26, u27], defers := [] }
theorem jb_intro {w : World} {v : Value} {i k : Nat} {u5 u6 u7 u8 u9 u10 u11 u12 u13 u14 u15 u16 u17 u18 u19 u20 u21 u22 u23 u24 u25 u26 u27 : Value} (h : k ≤ i) : JB w v i { tmps := #[v, undef, .slice none 0 0, .slice none 0 0, .int .i64 k, u5, u6, u7, u8, u9, u10, u11, u12, u13, u14, u15, u16, u17, u18, u19, u20, u21, u22, u23, u24, u25, u26, u27], defers := [] } w := ⟨rfl, k, u5, u6, u7, u8, u9, u10, u11, u12, u13, u14, u15, u16, u17, u18, u19, u20, u21, u22, u23, u24, u25, u26, u27, h, rfl⟩
theorem ej_ret {l : Nat} {J : Act → World → Prop} {Q : Exit → Act → World → Prop} {a : Act} {w : World} (h : Q .ret a w) : Exit.jump l J Q .ret a w := h
set_option maxRecDepth 100000 in
set_option maxHeartbeats 4000000 in
/-- parted, where a bar stands behind i words that are none -/
theorem parted_bar (L : List ByteArray) (b off cap : Nat) (w : World) (hl : L.length ≤ 100000) (hcap : L.length ≤ cap) (hbl : b < w.heap.size) (hs : ∀ x ∈ L, x.size ≤ 1000000) (hc : ∀ j, j < L.length → w.cell? ⟨b, off + j, none⟩ = some (.string (L.getD j ⟨#[]⟩)))
    (i : Nat) (hil : i + 1 < L.length) (hib : L.getD i ⟨#[]⟩ = bar) (hn : ∀ j, j < i → ((L.getD j ⟨#[]⟩).toList == [124]) = false) :
    Calls Tryz.prog 29 #[.slice (some ⟨b, off, none⟩) L.length cap] w fun e w' => ∃ v, e = .returned (.tuple #[.slice (some ⟨b, off, none⟩) i i, v]) ∧ w'.ownsRow w.heap.size 9 1 v (L.length - (i + 1)) (((L.drop (i + 1)).map cpB).map Value.string) ∧ Below w.heap.size w w' := by
  go_enter Tryz.func29, Tryz.ntmps29
  go_wp2
  refine wp_scope_at 0 (JB w (.slice (some ⟨b, off, none⟩) L.length cap) i) (fun a _ => i - (intOf (a.tmps.getD 4 undef)).toNat) rfl ?_ ?_
  · rintro a' w' ⟨hw9, k, u5, u6, u7, u8, u9, u10, u11, u12, u13, u14, u15, u16, u17, u18, u19, u20, u21, u22, u23, u24, u25, u26, u27, hk, rfl⟩
    obtain rfl := hw9.symm
    have hlt : k < L.length := by omega
    have cc := hc k hlt
    by_cases hki : k < i
    · have hx := hn k hki
      generalize L.getD k ⟨#[]⟩ = x at cc hx
      have d1 : ((k : Int) == (L.length : Int)) = false := beq_eq_false_iff_ne.2 (by omega)
      clear hc hs hn
      go_wp2
      go_step3
      exact ⟨rfl, jb_intro (k := k + 1) (by omega), by simp [intOf]; omega⟩
    · obtain rfl : k = i := by omega
      have e1 : L.drop (k + 1) ≠ [] := by intro h; have := congrArg List.length h; simp at this; omega
      have hcp : ∀ W, Below w.heap.size w W → Calls Tryz.prog 30 #[.slice (some ⟨b, off + (k + 1), none⟩) (L.length - (k + 1)) (cap - (k + 1))] W fun e w' => ∃ v', e = .returned v' ∧ w'.ownsRow W.heap.size 9 1 v' (L.length - (k + 1)) (((L.drop (k + 1)).map cpB).map Value.string) ∧ Below W.heap.size W w' := fun W hB => by
        have h9 := copies_some (L.drop (k + 1)) b (off + (k + 1)) (cap - (k + 1)) W (by simp; omega) (Nat.lt_of_lt_of_le hbl hB.size) (fun x hx => hs x (List.mem_of_mem_drop hx)) (fun j hj => by
          rw [List.length_drop] at hj
          have := hc (k + 1 + j) (by omega)
          rw [Nat.add_assoc]
          refine (hB.cell (p := ⟨b, off + (k + 1 + j), none⟩) hbl).trans (this.trans ?_)
          simp only [List.getD_eq_getElem?_getD, List.getElem?_drop])
        rw [List.length_drop] at h9
        exact h9
      rw [hib] at cc
      have d1 : ((k : Int) == (L.length : Int)) = false := beq_eq_false_iff_ne.2 (by omega)
      have HCP := hide' hcp
      have HL := hide' hl
      have HCC := hide' hcap
      clear hc hs hn hcp hl hcap e1 hib
      go_wp2_with fail
      have hlK := HL.out
      have hcK := HCC.out
      have hsl3 := sls_to ⟨b, off, none⟩ L.length cap k (by omega) hcK
      have hslf := sls_from b off L.length cap (k + 1) (by omega) hcK (by omega)
      rw [show ((k + 1 : Nat) : Int) = (k : Int) + 1 by omega] at hslf
      have hwk : IntKind.i64.wrap ((k : Int) + 1) = (k : Int) + 1 := i64_id _ ⟨by omega, by omega⟩
      clear hlK hcK
      refine wp_region_classX [] (C := TrC) (by kernel_rfl) ?_
      (refine wpAnyX_take (i := 0) (v := ?_) (tr_c _) rfl (by kernel_rfl) (by kernel_rfl) (by kernel_rfl) (by kernel_rfl) (fun _ _ _ h => h) (Or.inl ⟨by kernel_rfl, ?_⟩) ?_; rotate_left; (intro w hc; clear hc; go_simp; try with_reducible rfl))
      go_simp
      (refine wpAnyX_take (i := 1) (v := ?_) (tr_c _) rfl (by kernel_rfl) (by kernel_rfl) (by kernel_rfl) (by kernel_rfl) (fun _ _ _ h => h) (Or.inl ⟨by kernel_rfl, ?_⟩) ?_; rotate_left; (intro w hc; clear hc; go_simp; try with_reducible rfl))
      go_simp
      (refine wpAnyX_take (i := 2) (v := ?_) (tr_c _) rfl (by kernel_rfl) (by kernel_rfl) (by kernel_rfl) (by kernel_rfl) (fun _ _ _ h => h) (Or.inl ⟨by kernel_rfl, ?_⟩) ?_; rotate_left; (intro w hc; clear hc; go_simp; try with_reducible rfl))
      go_simp
      (refine wpAnyX_take (i := 3) (v := ?_) (tr_c _) rfl (by kernel_rfl) (by kernel_rfl) (by kernel_rfl) (by kernel_rfl) (fun _ _ _ h => h) (Or.inl ⟨by kernel_rfl, ?_⟩) ?_; rotate_left; (intro w hc; clear hc; go_simp; try with_reducible rfl))
      go_simp
      (refine wpAnyX_take (i := 4) (v := ?_) (tr_c _) rfl (by kernel_rfl) (by kernel_rfl) (by kernel_rfl) (by kernel_rfl) (fun _ _ _ h => h) (Or.inl ⟨by kernel_rfl, ?_⟩) ?_; rotate_left; (intro w hc; clear hc; go_simp; try with_reducible rfl))
      go_simp
      (refine wpAnyX_take (i := 5) (v := ?_) (tr_c _) rfl (by kernel_rfl) (by kernel_rfl) (by kernel_rfl) (by kernel_rfl) (fun _ _ _ h => h) (Or.inl ⟨by kernel_rfl, ?_⟩) ?_; rotate_left; (intro w hc; clear hc; go_simp; try with_reducible rfl))
      go_simp
      (refine wpAnyX_take (i := 6) (v := ?_) (tr_c _) rfl (by kernel_rfl) (by kernel_rfl) (by kernel_rfl) (by kernel_rfl) (fun _ _ _ h => h) (Or.inl ⟨by kernel_rfl, ?_⟩) ?_; rotate_left; (intro w hc; clear hc; go_simp; try with_reducible rfl))
      go_simp
      (refine wpAnyX_take (i := 7) (v := ?_) (tr_c _) rfl (by kernel_rfl) (by kernel_rfl) (by kernel_rfl) (by kernel_rfl) (fun _ _ _ h => h) (Or.inl ⟨by kernel_rfl, ?_⟩) ?_; rotate_left; (intro w hc; clear hc; go_simp; try with_reducible rfl))
      go_simp
      have kcp := HCP.out w.drew (below_drewn 1)
      refine wpAnyX_one (i := 8) (by kernel_rfl) (wpOp_wanted rfl (by rfl) ?_)
      go_simp
      refine kcp.mono ?_
      rintro e w3 ⟨v3, rfl, hr3, hb3⟩
      (first | refine ⟨fun _ => tr_c _, ?_⟩ | refine ⟨tr_c _, ?_⟩)
      obtain ⟨a3, c3, rfl⟩ := row_form hr3
      have HR := hide' hr3
      clear hr3 kcp
      refine wpAnyX_one (i := 9) (by kernel_rfl) (wpOp_wanted rfl (by rfl) ?_)
      go_simp
      (first | refine ⟨fun _ => tr_c _, ?_⟩ | refine ⟨tr_c _, ?_⟩)
      refine wpAnyX_one (i := 10) (by kernel_rfl) (wpOp_wanted rfl (by rfl) ?_)
      go_simp
      (first | refine ⟨fun _ => tr_c _, ?_⟩ | refine ⟨tr_c _, ?_⟩)
      refine wpAnyX_done (by kernel_rfl) ?_ _
      go_wp2
      refine ej_ret ?_
      go_ret2
      exact ⟨_, rfl, HR.out, (below_drewn 1).trans hb3⟩
  · intro hp
    go_wp2
    go_step3
    rename_i K1 hK1
    exact hK1 _ _ (hp _ _ (jb_intro (k := 0) (Nat.zero_le _)))
end Go.Proofs.YthkjinhnnilalaaGreatDoor
