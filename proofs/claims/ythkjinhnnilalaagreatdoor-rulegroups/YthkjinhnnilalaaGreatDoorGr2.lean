/- The contract of rule.Group at any words. -/
import Derived.Test.YthkjinhnnilalaaGreatDoorGpl
import Derived.Test.YthkjinhnnilalaaGreatDoorDr
import Derived.ScopeJumps
namespace Go.Proofs.YthkjinhnnilalaaGreatDoor
open Go.RowKit Go.Shelf

theorem beg_any (x : ByteArray) (hx : x.size ≤ 1000000) (w : World) : Calls Tryz.prog 21 #[.string x] w fun e w' => e = .returned (.bool (begP (tl x))) ∧ w' = w := by
  have q : ∀ w, Calls Tryz.prog 42 #[.string x, .int .u8 40] w fun e w' => e = .returned (.int .i64 (Lib.indexByte (tl x) 40)) ∧ w' = w := fun w => Tryz.strings_IndexByte x 40 w
  have q2 := fun w => ends_any x hx w
  have hp : begP (tl x) = (decide (0 < Lib.indexByte (tl x) 40) && !Lib.hasSuffix (tl x) [41]) := rfl
  rw [hp]
  clear hp
  generalize Lib.indexByte (tl x) 40 = r at q
  generalize Lib.hasSuffix (tl x) [41] = b at q2
  by_cases h : 0 < r
  · have d1 : decide ((0 : Int) < r) = true := decide_eq_true h
    rw [d1]
    go_enter Tryz.func21, Tryz.ntmps21
    go_wp2_with (first | (go_at_call 42; refine (q _).mono ?_; rintro e w1 ⟨rfl, rfl⟩) | (go_at_call 41; refine (q2 _).mono ?_; rintro e w1 ⟨rfl, rfl⟩))
    go_ret
    exact ⟨by simp, rfl⟩
  · have d1 : decide ((0 : Int) < r) = false := decide_eq_false h
    rw [d1]
    go_enter Tryz.func21, Tryz.ntmps21
    go_wp2_with (first | (go_at_call 42; refine (q _).mono ?_; rintro e w1 ⟨rfl, rfl⟩) | (go_at_call 41; refine (q2 _).mono ?_; rintro e w1 ⟨rfl, rfl⟩))
    go_ret
    exact ⟨by simp, rfl⟩
/-- a text without its end's bracket, and had it one? -/
theorem csuf_any (x : ByteArray) (hx : x.size ≤ 1000000) (w : World) : Calls Tryz.prog 23 #[.string x, .string ⟨#[41]⟩] w fun e w' => e = .returned (.tuple #[.string (mk (cutS (tl x))), .bool (endsP (tl x))]) ∧ w' = w := by
  have h := Tryz.strings_CutSuffix x ⟨#[41]⟩ w (by omega)
  have e1 : Lib.trimSuffix (tl x) [41] = cutS (tl x) := by
    unfold Lib.trimSuffix cutS endsP
    rfl
  rw [← e1]
  exact h
/-- a scope in which the run may go forward to a label, once -/
theorem wp_scope_fwd {P : Program} {a : Act} {w : World} {Q : Exit → Act → World → Prop} {c rest : Code} (l : Nat) (hf : findLabel c l = some (.seq .skip rest))
    (first : c.wp P (Exit.jump l (fun a w => rest.wp P (Exit.noGoto Q) a w) Q) a w) : (Code.scope c).wp P Q a w :=
  wp_scope_jumps l (fun a w => rest.wp P (Exit.noGoto Q) a w) (fun _ _ => 0) hf first (fun a w h => wp_seq (wp_skip (wp_mono h (fun e a w q => by cases e <;> first | exact q | exact absurd q (by simp [Exit.noGoto])))))
theorem cat_tl (A m : ByteArray) : tl (A ++ ⟨#[40]⟩ ++ m ++ ⟨#[41]⟩) = tl A ++ (40 :: (tl m ++ [41])) := by simp [tl]
theorem below_dn {B : Nat} {w w' : World} (h : Below B w w') (q : Nat) : Below B w (w'.drewN q) := ⟨h.os, h.tape, h.output, h.size, h.block⟩
theorem own_drewN {w : World} {B e size n : Nat} {v : Value} {xs : List Value} (h : w.ownsRow B e size v n xs) (q : Nat) : (w.drewN q).ownsRow B e size v n xs := h
theorem cutS_len (x : Bs) : (cutS x).length ≤ x.length := by
  unfold cutS
  split
  · rw [List.length_take]; omega
  · exact Nat.le_refl _
set_option maxRecDepth 100000 in
set_option maxHeartbeats 4000000 in
theorem grpg_some (L : List ByteArray) (b off cap : Nat) (w : World) (hl : L.length ≤ 100000) (hb : b < w.heap.size) (hs : ∀ x ∈ L, x.size ≤ 1000000) (hc : ∀ j, j < L.length → w.cell? ⟨b, off + j, none⟩ = some (.string (L.getD j ⟨#[]⟩))) :
    Calls Tryz.prog 10 #[.slice (some ⟨b, off, none⟩) L.length cap] w fun e w' => ∃ (v : Value) (O : List ByteArray), e = .returned v ∧ O.map tl = grp [] (L.map tl) ∧ w'.ownsRow w.heap.size 9 1 v O.length (O.map Value.string) ∧ Below w.heap.size w w' := by
  obtain ⟨i0, hi, hz0, hz1, hz2⟩ := info_parts info9
  have kL := last_some L b off cap w hl hs hc
  obtain ⟨T, hT⟩ : ∃ T, T = grp [] (L.map tl) := ⟨_, rfl⟩
  have HT := hide' hT
  rw [← hT]
  clear hT
  have HLA := hide' (last_any L)
  generalize lstL L L.length = r at kL HLA
  go_enter Tryz.func10, Tryz.ntmps10
  go_wp2_with (go_at_call 20; refine kL.mono ?_; rintro e w1 ⟨rfl, rfl⟩)
  clear kL
  go_loopw [13, 3, 4] (fun i l a wr => ∃ (k : Nat) (A : ByteArray) (O : List ByteArray), k ≤ L.length ∧ i = .int .i64 k ∧ a = .string A ∧ A.size ≤ 1000000 ∧ O.length ≤ k ∧ wr.ownsRow w1.heap.size 9 1 l O.length (O.map Value.string) ∧ Below w1.heap.size w1 wr ∧ Hid (O.map tl ++ grp (tl A) ((L.map tl).drop k) = T)) (fun i _ _ _ => L.length - (intOf i).toNat)
  case atStart => exact ⟨0, ⟨#[]⟩, [], Nat.zero_le _, rfl, rfl, by decide, Nat.le_refl _, World.ownsRow_nil _ _ _ _, Below.refl _ _, HT.out.symm⟩
  case round =>
    clear HT
    obtain ⟨k, A, O, hk, rfl, rfl, hAs, hOk, hrow, hB, HI⟩ := hrel
    obtain ⟨a1, c1, rfl⟩ := row_form hrow
    by_cases hlt : k < L.length
    · have cc := (hB.cell (p := ⟨b, off + k, none⟩) hb).trans (hc k hlt)
      have hx := hs (L.getD k ⟨#[]⟩) (by rw [List.getD_eq_getElem?_getD, List.getElem?_eq_getElem hlt]; exact List.getElem_mem hlt)
      have HD := hide' (drop_cons L k hlt)
      have hla := HLA.out k
      generalize L.getD k ⟨#[]⟩ = x at cc hx HD hla
      have hsz := hB.size
      have HC := hide' hc
      have HS := hide' hs
      have HBB := hide' hb
      clear hc hs hb
      have hpb : O.length + 1 ≤ maxLen := by unfold maxLen; omega
      have hbb : (O.length + 1) * 16 ≤ 140737488355328 := by omega
      cases hA : (tl A).isEmpty with
      | true =>
        obtain rfl : A = ⟨#[]⟩ := tl_inj _ _ (by rw [List.isEmpty_iff.1 hA]; rfl)
        clear hA
        have kB := fun w => beg_any x hx w
        have kN := fun w => Tx.clone_any x w (by omega)
        by_cases hg : (begP (tl x) && decide ((k : Int) ≤ r)) = true
        · rw [Bool.and_eq_true, decide_eq_true_iff] at hg
          obtain ⟨hg1, hg2⟩ := hg
          have hgt : decide (r < (k : Int)) = false := decide_eq_false (by omega)
          have hbe : 0 < Lib.indexByte (tl x) 40 ∧ endsP (tl x) = false := by
            unfold begP at hg1
            simpa using hg1
          have hie := ix_lt (tl x) hbe.1
          rw [tl_len] at hie
          have kU := fun w => cuts_yes 40 x (ix (tl x)) w hx hie.2.2 hie.1
          have HNX0 : Hid (O.map tl ++ (emit ((tl x).take (ix (tl x))) ((tl x).drop (ix (tl x) + 1)) ++ grp ((tl x).take (ix (tl x))) ((L.map tl).drop (k + 1))) = T) := by
            show _ = _
            rw [← HI.out, HD.out]
            rw [← grp_begin (tl x) _ hg1 (by rw [hla hbe.2]; exact decide_eq_true hg2)]
            rfl
          have hre := rest_ends (tl x) (ix (tl x) + 1) hbe.2
          obtain ⟨A, hA⟩ : ∃ A, A = x.extract 0 (ix (tl x)) := ⟨_, rfl⟩
          obtain ⟨m, hm⟩ : ∃ m, m = x.extract (ix (tl x) + 1) x.size := ⟨_, rfl⟩
          have hAt : tl A = (tl x).take (ix (tl x)) := by rw [hA, ext_take, tl_mk]
          have hmt : tl m = (tl x).drop (ix (tl x) + 1) := by rw [hm, ext_drop, tl_mk]
          have hAs' : A.size ≤ 1000000 := by rw [hA, ByteArray.size_extract]; omega
          have hms : m.size ≤ 1000000 := by rw [hm, ByteArray.size_extract]; omega
          rw [← hA, ← hm] at kU
          rw [← hAt, ← hmt] at HNX0
          rw [← hmt] at hre
          have kC := fun w => csuf_any m hms w
          rw [hre, show cutS (tl m) = tl m by unfold cutS; rw [hre]; rfl, mk_tl] at kC
          rw [hg1] at kB
          obtain ⟨X1, e1⟩ : ∃ X1, A ++ (⟨#[40]⟩ : ByteArray) = X1 := ⟨_, rfl⟩
          obtain ⟨X2, e2⟩ : ∃ X2, X1 ++ m = X2 := ⟨_, rfl⟩
          obtain ⟨X, e3⟩ : ∃ X, X2 ++ (⟨#[41]⟩ : ByteArray) = X := ⟨_, rfl⟩
          have z1 : A.size + (⟨#[40]⟩ : ByteArray).size ≤ 3000000 := by rw [show (⟨#[40]⟩ : ByteArray).size = 1 from rfl]; omega
          have z2 : X1.size + m.size ≤ 4000000 := by rw [← e1, ByteArray.size_append, show (⟨#[40]⟩ : ByteArray).size = 1 from rfl]; omega
          have z3 : X2.size + (⟨#[41]⟩ : ByteArray).size ≤ 5000000 := by rw [← e2, ByteArray.size_append, ← e1, ByteArray.size_append, show (⟨#[40]⟩ : ByteArray).size = 1 from rfl, show (⟨#[41]⟩ : ByteArray).size = 1 from rfl]; omega
          have hXt : tl X = tl A ++ (40 :: (tl m ++ [41])) := by rw [← e3, ← e2, ← e1]; exact cat_tl A m
          clear hA hm hAt hmt hre hie hbe hla HI HD kN hg1 hg2
          cases hme : (tl m).isEmpty with
          | true =>
            have he : m.toList.isEmpty = true := by rw [emp_of]; exact hme
            have HNX : Hid (O.map tl ++ grp (tl A) ((L.map tl).drop (k + 1)) = T) := by
              show _ = _
              rw [← HNX0.out, show emit (tl A) (tl m) = [] by unfold emit; rw [if_pos hme], List.nil_append]
            clear HNX0 hme hXt e1 e2 e3 z1 z2 z3
            have HROW0 := hide' hrow
            clear hrow
            go_wp2_with fail
            go_step3
            go_wp2_with (first | (go_at_call 21; refine (kB _).mono ?_; rintro e w2 ⟨rfl, rfl⟩) | (go_at_call 22; refine (kU _).mono ?_; rintro e w2 ⟨rfl, nn, rfl⟩) | (go_at_call 23; refine (kC _).mono ?_; rintro e w3 ⟨rfl, rfl⟩))
            go_step3
            go_wp2_with (first | (go_at_call 23; refine (kC _).mono ?_; rintro e w3 ⟨rfl, rfl⟩))
            have hB2 := below_dn hB nn
            have HROW := hide' (own_drewN HROW0.out nn)
            simp only [Exit.noGoto, Exit.inBlock, Exit.then]
            go_wp2
            exact ⟨⟨k + 1, A, O, by omega, by go_num, rfl, hAs', by omega, HROW.out, hB2, HNX⟩, by simp [intOf]; omega⟩
          | false =>
            have he : m.toList.isEmpty = false := by rw [emp_of]; exact hme
            have HNX : Hid ((O ++ [X]).map tl ++ grp (tl A) ((L.map tl).drop (k + 1)) = T) := by
              show _ = _
              rw [← HNX0.out, show emit (tl A) (tl m) = [tl (X)] by unfold emit; rw [if_neg (by rw [hme]; decide), hXt]]
              simp
            clear HNX0 hme hXt
            go_wp2_with fail
            go_step3
            go_wp2_with (first | (go_at_call 21; refine (kB _).mono ?_; rintro e w2 ⟨rfl, rfl⟩) | (go_at_call 22; refine (kU _).mono ?_; rintro e w2 ⟨rfl, nn, rfl⟩))
            have hrow3 := own_drewN hrow nn
            have hB3 := below_dn hB nn
            have HEQ : Hid (w2.drewN nn = w2.drewN nn) := rfl
            generalize w2.drewN nn = wd at hrow3 hB3 ⊢
            have hsz3 := hB3.size
            have h2b : ∀ o, w1.heap.size ≤ (wd.alloc o).heap.size := fun o => by simp; omega
            go_step3
            go_wp2_with (first | (go_at_call 23; refine (kC _).mono ?_; rintro e w3 ⟨rfl, rfl⟩) | (at_builtin; refine wpList_append_own _ rfl _ _ 22 rfl w1.heap.size 9 i0 (.string ⟨#[]⟩) 1 16 Tryz.underlying22 hi hz0 hz1 hz2 rfl (by decide) _ _ _ rfl (hrow3.alloc _) ⟨w3.heap.size, 0, none⟩ 1 1 [.string (X)] rfl rfl (cell_one_new _ _ _) (by simp [Value.oneCell']) hpb hbb (h2b _) ?_; intro v' w4 hown' hgrow hif; clear hif; obtain ⟨a2, c3, rfl⟩ := row_form hown'; have hB4 := app_below hB3 (by omega) hrow3 hgrow; have HO := hide' hown'; clear hown' hgrow))
            simp only [Exit.noGoto, Exit.inBlock, Exit.then]
            go_wp2
            exact ⟨⟨k + 1, A, O ++ [X], by omega, by go_num, rfl, hAs', by simp; omega, by rw [List.length_append, List.map_append]; exact HO.out, hB4, HNX⟩, by simp [intOf]; omega⟩
        · have hgf : (begP (tl x) && decide ((k : Int) ≤ r)) = false := by simpa using hg
          have HNX : Hid ((O ++ [x]).map tl ++ grp [] ((L.map tl).drop (k + 1)) = T) := by
            show _ = _
            rw [← HI.out, HD.out]
            have e := grp_word (tl x) ((L.map tl).drop (k + 1)) (by
              cases hb : begP (tl x) with
              | false => rfl
              | true =>
                rw [hb] at hgf
                have he : endsP (tl x) = false := by
                  unfold begP at hb
                  simp at hb
                  exact hb.2
                rw [hla he]
                exact hgf)
            rw [show grp (tl ⟨#[]⟩) = grp [] from rfl, e]
            simp
          clear HI HD hg hla
          have hAs' : (⟨#[]⟩ : ByteArray).size ≤ 1000000 := by decide
          cases hb : begP (tl x) with
          | false =>
            rw [hb] at kB
            clear hb hgf
            go_wp2_with fail
            go_step3
            go_wp2_with (first | (go_at_call 21; refine (kB _).mono ?_; rintro e w2 ⟨rfl, rfl⟩) | (go_at_call 19; refine (kN _).mono ?_; rintro e w3 ⟨rfl, hb3⟩; have hrow3 := own_below hrow hb3; have hs3 := hb3.size; have hB3 := hB.trans (hb3.mono hB.size); have h2b : ∀ o, w1.heap.size ≤ (w3.alloc o).heap.size := fun o => by simp; omega) | (at_builtin; refine wpList_append_own _ rfl _ _ 22 rfl w1.heap.size 9 i0 (.string ⟨#[]⟩) 1 16 Tryz.underlying22 hi hz0 hz1 hz2 rfl (by decide) _ _ _ rfl (hrow3.alloc _) ⟨w3.heap.size, 0, none⟩ 1 1 [.string (x)] rfl rfl (cell_one_new _ _ _) (by simp [Value.oneCell']) hpb hbb (h2b _) ?_; intro v' w4 hown' hgrow hif; clear hif; obtain ⟨a2, c3, rfl⟩ := row_form hown'; have hB4 := app_below hB3 (by omega) hrow3 hgrow; have HO := hide' hown'; clear hown' hgrow))
            simp only [Exit.noGoto, Exit.inBlock, Exit.then]
            go_wp2
            exact ⟨⟨k + 1, ⟨#[]⟩, O ++ [x], by omega, by go_num, rfl, hAs', by simp; omega, by rw [List.length_append, List.map_append]; exact HO.out, hB4, HNX⟩, by simp [intOf]; omega⟩
          | true =>
            rw [hb] at kB hgf
            have hgt : decide (r < (k : Int)) = true := decide_eq_true (by simp at hgf; omega)
            clear hb hgf
            go_wp2_with fail
            go_step3
            go_wp2_with (first | (go_at_call 21; refine (kB _).mono ?_; rintro e w2 ⟨rfl, rfl⟩) | (go_at_call 19; refine (kN _).mono ?_; rintro e w3 ⟨rfl, hb3⟩; have hrow3 := own_below hrow hb3; have hs3 := hb3.size; have hB3 := hB.trans (hb3.mono hB.size); have h2b : ∀ o, w1.heap.size ≤ (w3.alloc o).heap.size := fun o => by simp; omega) | (at_builtin; refine wpList_append_own _ rfl _ _ 22 rfl w1.heap.size 9 i0 (.string ⟨#[]⟩) 1 16 Tryz.underlying22 hi hz0 hz1 hz2 rfl (by decide) _ _ _ rfl (hrow3.alloc _) ⟨w3.heap.size, 0, none⟩ 1 1 [.string (x)] rfl rfl (cell_one_new _ _ _) (by simp [Value.oneCell']) hpb hbb (h2b _) ?_; intro v' w4 hown' hgrow hif; clear hif; obtain ⟨a2, c3, rfl⟩ := row_form hown'; have hB4 := app_below hB3 (by omega) hrow3 hgrow; have HO := hide' hown'; clear hown' hgrow))
            simp only [Exit.noGoto, Exit.inBlock, Exit.then]
            go_wp2
            exact ⟨⟨k + 1, ⟨#[]⟩, O ++ [x], by omega, by go_num, rfl, hAs', by simp; omega, by rw [List.length_append, List.map_append]; exact HO.out, hB4, HNX⟩, by simp [intOf]; omega⟩
      | false =>
        have hAe : A.toList.isEmpty = false := by rw [emp_of]; exact hA
        have kC := fun w => csuf_any x hx w
        have hms : (mk (cutS (tl x))).size ≤ x.size := by rw [mk_size, ← tl_len x]; exact cutS_len _
        obtain ⟨m, hm⟩ : ∃ m, m = mk (cutS (tl x)) := ⟨_, rfl⟩
        rw [← hm] at kC hms
        have hmt : tl m = cutS (tl x) := by rw [hm, tl_mk]
        have HNX0 : Hid (O.map tl ++ (emit (tl A) (tl m) ++ grp (if endsP (tl x) then [] else tl A) ((L.map tl).drop (k + 1))) = T) := by
          show _ = _
          rw [← HI.out, HD.out, grp_in (tl A) (tl x) _ hA, hmt]
        clear hm hmt hla HI HD
        obtain ⟨X1, e1⟩ : ∃ X1, A ++ (⟨#[40]⟩ : ByteArray) = X1 := ⟨_, rfl⟩
        obtain ⟨X2, e2⟩ : ∃ X2, X1 ++ m = X2 := ⟨_, rfl⟩
        obtain ⟨X, e3⟩ : ∃ X, X2 ++ (⟨#[41]⟩ : ByteArray) = X := ⟨_, rfl⟩
        have z1 : A.size + (⟨#[40]⟩ : ByteArray).size ≤ 3000000 := by rw [show (⟨#[40]⟩ : ByteArray).size = 1 from rfl]; omega
        have z2 : X1.size + m.size ≤ 4000000 := by rw [← e1, ByteArray.size_append, show (⟨#[40]⟩ : ByteArray).size = 1 from rfl]; omega
        have z3 : X2.size + (⟨#[41]⟩ : ByteArray).size ≤ 5000000 := by rw [← e2, ByteArray.size_append, ← e1, ByteArray.size_append, show (⟨#[40]⟩ : ByteArray).size = 1 from rfl, show (⟨#[41]⟩ : ByteArray).size = 1 from rfl]; omega
        have hXt : tl X = tl A ++ (40 :: (tl m ++ [41])) := by rw [← e3, ← e2, ← e1]; exact cat_tl A m
        have h2b : ∀ o, w1.heap.size ≤ (wr.alloc o).heap.size := fun o => by simp; omega
        cases hcl : endsP (tl x) with
        | true =>
          rw [hcl] at kC HNX0
          rw [if_pos rfl] at HNX0
          have hAs' : (⟨#[]⟩ : ByteArray).size ≤ 1000000 := by decide
          cases hme : (tl m).isEmpty with
          | true =>
            have he : m.toList.isEmpty = true := by rw [emp_of]; exact hme
            have HNX : Hid (O.map tl ++ grp ([]) ((L.map tl).drop (k + 1)) = T) := by
              show _ = _
              rw [← HNX0.out, show emit (tl A) (tl m) = [] by unfold emit; rw [if_pos hme], List.nil_append]
            clear HNX0 hme hcl hXt e1 e2 e3 z1 z2 z3
            have HROW := hide' hrow
            have hB2 := hB
            go_wp2_with fail
            refine wp_scope_fwd 0 (by rfl) ?_
            go_wp2_with fail
            apply wp_goto
            refine ⟨rfl, ?_⟩
            go_wp2_with (go_at_call 23; refine (kC _).mono ?_; rintro e w2 ⟨rfl, rfl⟩)
            simp only [Exit.noGoto, Exit.inBlock, Exit.then]
            go_wp2
            exact ⟨⟨k + 1, ⟨#[]⟩, O, by omega, by go_num, rfl, hAs', by omega, HROW.out, hB2, HNX⟩, by simp [intOf]; omega⟩
          | false =>
            have he : m.toList.isEmpty = false := by rw [emp_of]; exact hme
            have HNX : Hid ((O ++ [X]).map tl ++ grp ([]) ((L.map tl).drop (k + 1)) = T) := by
              show _ = _
              rw [← HNX0.out, show emit (tl A) (tl m) = [tl (X)] by unfold emit; rw [if_neg (by rw [hme]; decide), hXt]]
              simp
            clear HNX0 hme hcl hXt
            go_wp2_with fail
            refine wp_scope_fwd 0 (by rfl) ?_
            go_wp2_with fail
            apply wp_goto
            refine ⟨rfl, ?_⟩
            go_wp2_with (first | (go_at_call 23; refine (kC _).mono ?_; rintro e w2 ⟨rfl, rfl⟩) | (at_builtin; refine wpList_append_own _ rfl _ _ 22 rfl w1.heap.size 9 i0 (.string ⟨#[]⟩) 1 16 Tryz.underlying22 hi hz0 hz1 hz2 rfl (by decide) _ _ _ rfl (hrow.alloc _) ⟨w2.heap.size, 0, none⟩ 1 1 [.string (X)] rfl rfl (cell_one_new _ _ _) (by simp [Value.oneCell']) hpb hbb (h2b _) ?_; intro v' w4 hown' hgrow hif; clear hif; obtain ⟨a2, c3, rfl⟩ := row_form hown'; have hB4 := app_below hB (by omega) hrow hgrow; have HO := hide' hown'; clear hown' hgrow))
            simp only [Exit.noGoto, Exit.inBlock, Exit.then]
            go_wp2
            exact ⟨⟨k + 1, ⟨#[]⟩, O ++ [X], by omega, by go_num, rfl, hAs', by simp; omega, by rw [List.length_append, List.map_append]; exact HO.out, hB4, HNX⟩, by simp [intOf]; omega⟩
        | false =>
          rw [hcl] at kC HNX0
          rw [if_neg (by decide)] at HNX0
          have hAs' := hAs
          cases hme : (tl m).isEmpty with
          | true =>
            have he : m.toList.isEmpty = true := by rw [emp_of]; exact hme
            have HNX : Hid (O.map tl ++ grp (tl A) ((L.map tl).drop (k + 1)) = T) := by
              show _ = _
              rw [← HNX0.out, show emit (tl A) (tl m) = [] by unfold emit; rw [if_pos hme], List.nil_append]
            clear HNX0 hme hcl hXt e1 e2 e3 z1 z2 z3
            have HROW := hide' hrow
            have hB2 := hB
            go_wp2_with fail
            refine wp_scope_fwd 0 (by rfl) ?_
            go_wp2_with fail
            apply wp_goto
            refine ⟨rfl, ?_⟩
            go_wp2_with (go_at_call 23; refine (kC _).mono ?_; rintro e w2 ⟨rfl, rfl⟩)
            simp only [Exit.noGoto, Exit.inBlock, Exit.then]
            go_wp2
            exact ⟨⟨k + 1, A, O, by omega, by go_num, rfl, hAs', by omega, HROW.out, hB2, HNX⟩, by simp [intOf]; omega⟩
          | false =>
            have he : m.toList.isEmpty = false := by rw [emp_of]; exact hme
            have HNX : Hid ((O ++ [X]).map tl ++ grp (tl A) ((L.map tl).drop (k + 1)) = T) := by
              show _ = _
              rw [← HNX0.out, show emit (tl A) (tl m) = [tl (X)] by unfold emit; rw [if_neg (by rw [hme]; decide), hXt]]
              simp
            clear HNX0 hme hcl hXt
            go_wp2_with fail
            refine wp_scope_fwd 0 (by rfl) ?_
            go_wp2_with fail
            apply wp_goto
            refine ⟨rfl, ?_⟩
            go_wp2_with (first | (go_at_call 23; refine (kC _).mono ?_; rintro e w2 ⟨rfl, rfl⟩) | (at_builtin; refine wpList_append_own _ rfl _ _ 22 rfl w1.heap.size 9 i0 (.string ⟨#[]⟩) 1 16 Tryz.underlying22 hi hz0 hz1 hz2 rfl (by decide) _ _ _ rfl (hrow.alloc _) ⟨w2.heap.size, 0, none⟩ 1 1 [.string (X)] rfl rfl (cell_one_new _ _ _) (by simp [Value.oneCell']) hpb hbb (h2b _) ?_; intro v' w4 hown' hgrow hif; clear hif; obtain ⟨a2, c3, rfl⟩ := row_form hown'; have hB4 := app_below hB (by omega) hrow hgrow; have HO := hide' hown'; clear hown' hgrow))
            simp only [Exit.noGoto, Exit.inBlock, Exit.then]
            go_wp2
            exact ⟨⟨k + 1, A, O ++ [X], by omega, by go_num, rfl, hAs', by simp; omega, by rw [List.length_append, List.map_append]; exact HO.out, hB4, HNX⟩, by simp [intOf]; omega⟩
    · obtain rfl : k = L.length := by omega
      have HF : Hid (O.map tl = T) := by
        show _ = _
        rw [← HI.out, List.drop_eq_nil_of_le (by rw [List.length_map]; exact Nat.le_refl _), grp_nil, List.append_nil]
      have HO := hide' hrow
      clear hrow hc hs HI
      go_wp2
      go_ret
      exact ⟨_, _, rfl, HF.out, HO.out, hB⟩
end Go.Proofs.YthkjinhnnilalaaGreatDoor
