/- The contract of anvilref10.Parts. -/
import Derived.Test.YtaemmgllhmjceaaDoorQs
namespace Go.Proofs.YtaemmgllhmjceaaDoor
open Go.RowKit

set_option maxRecDepth 100000 in
set_option maxHeartbeats 8000000 in
theorem rparts_any (s : ByteArray) (hs : s.size ≤ 100000) (w : World) :
    Calls Tryd.prog 10 #[.string s] w fun e w' => PartsR w' w.heap.size e (prs (tl s) (s.size + 1) 0 [] []) ∧ Below w.heap.size w w' := by
  obtain ⟨R, hR⟩ : ∃ R, R = prs (tl s) (s.size + 1) 0 [] [] := ⟨_, rfl⟩
  have HR := hide' hR
  rw [← hR]
  clear hR
  go_enter Tryd.func10, Tryd.ntmps10
  go_wp2
  go_loopw [4, 5, 6] (fun lv rv i wr => ∃ (k f : Nat) (row : Bs) (L : List Px), k ≤ s.size ∧ s.size + 1 ≤ k + f ∧ row.length ≤ k ∧ L.length ≤ 2 * k ∧ i = .int .i64 k ∧ QsAt wr w.heap.size L row lv rv ∧ Below w.heap.size w wr ∧ Hid (prs (tl s) f k row (L.map Prod.fst) = R)) (fun _ _ i _ => s.size - (intOf i).toNat)
  case atStart => exact ⟨0, s.size + 1, [], [], Nat.zero_le _, by omega, Nat.le_refl _, Nat.le_refl _, rfl, ⟨World.ownsRow_nil _ _ _ _, fun _ h => (by cases h), World.ownsRow_nil _ _ _ _⟩, Below.refl _ w, HR.out.symm⟩
  case round =>
    clear HR
    obtain ⟨k, f, row, L, hk, hf, hrl, hLl, rfl, hQ, hB, HI⟩ := hrel
    obtain ⟨la, lc, rfl⟩ := own_len hQ.list
    obtain ⟨ra, rc, rfl⟩ := own_len hQ.row
    have hsz := hB.size
    by_cases hlt : k < s.size
    · obtain ⟨f, rfl⟩ : ∃ f', f = f' + 1 := ⟨f - 1, by omega⟩
      have hga := getD_at s k hlt
      have hl := tl_len s
      by_cases h1 : s[k] = 36
      · have d1 : ((s[k].toNat : Int) != 36) = false := bne_no _ 36 36 rfl h1
        have d1' : ((s[k].toNat : Int) == 36) = true := beq_yes _ 36 36 rfl h1
        by_cases h2 : k + 1 < s.size
        · have hgb := getD_at s (k + 1) h2
          have d2 : decide ((s.size : Int) ≤ (k : Int) + 1) = false := decide_eq_false (by omega)
          have d2' : decide ((k : Int) + 1 < (s.size : Int)) = true := decide_eq_true (by omega)
          by_cases h36 : s[k + 1] = 36
          · have d3 : ((s[k + 1].toNat : Int) == 36) = true := beq_yes _ 36 36 rfl h36
            have hb : bg (tl s) k = (0, k + 2) := by
              unfold bg
              rw [hga, hgb, hl, if_pos ⟨h1, h2⟩, if_pos h36]
            have HI' : Hid (prs (tl s) f (k + 2) (row ++ [s[k]]) (L.map Prod.fst) = R) := by
              show _ = _
              rw [← HI.out, prs_byte (lt_tl hlt) (by rw [hb]), hb, hga]
            clear h1 h36 hga hgb hl hb HI
            go_wp2_with (at_builtin; refine wpList_addB rfl _ _ rfl hQ s[k] (by omega) hsz rfl rfl ?_; intro g2 cap2 w2 hQ2 hB2)
            exact ⟨⟨k + 2, f, row ++ [s[k]], L, by omega, by omega, by simp; omega, by omega, by go_num, hQ2, hB.trans hB2, HI'⟩, by simp [intOf]; omega⟩
          · have d3 : ((s[k + 1].toNat : Int) == 36) = false := beq_no _ 36 36 rfl h36
            rcases Decidable.em (row = []) with hre | hre
            · skip
              have hfl : fl row (L.map Prod.fst) = L.map Prod.fst := by unfold fl; rw [if_pos hre]
              have dr : ¬ (0 : Int) < (row.length : Int) := by rw [hre]; simp
              have HRE := hide' hre
              clear hre
              by_cases h3 : s[k + 1] = 40 ∨ s[k + 1] = 123
              · have kC := fun w => closing_any s hs k h2 s[k + 1] rfl h3 w
                have hbr : bg (tl s) k = brk (tl s) s[k + 1] (k + 1) := by
                  unfold bg
                  rw [hga, hgb, hl, if_pos ⟨h1, h2⟩, if_neg h36, if_pos h3.symm]
                cases hcl : cls s[k + 1] (shut s[k + 1]) (k + 2) 0 ((tl s).drop (k + 2)) with
                | none =>
                  rw [hcl] at kC
                  have HR' : Hid (R = none) := by
                    show _ = _
                    rw [← HI.out, prs_lost (lt_tl hlt) (by rw [hbr]; unfold brk; rw [hcl])]
                  simp only [clI] at kC
                  rcases h3 with h3 | h3
                  · have e1 : ((s[k + 1].toNat : Int) != 40) = false := bne_no _ 40 40 rfl h3
                    · clear h1 h3 h36 hga hgb hl hcl hbr HI hfl
                      go_wp2_with (go_at_call 26; refine (kC _).mono ?_; rintro e w4 ⟨rfl, rfl⟩)
                      go_ret2
                      rw [HR'.out]
                      exact ⟨rfl, hB⟩
                  · have e1 : ((s[k + 1].toNat : Int) != 40) = true := bne_yes _ 40 40 rfl (by rw [h3]; decide)
                    have e2 : ((s[k + 1].toNat : Int) != 123) = false := bne_no _ 123 123 rfl h3
                    · clear h1 h3 h36 hga hgb hl hcl hbr HI hfl
                      go_wp2_with (go_at_call 26; refine (kC _).mono ?_; rintro e w4 ⟨rfl, rfl⟩)
                      go_ret2
                      rw [HR'.out]
                      exact ⟨rfl, hB⟩
                | some i =>
                  rw [hcl] at kC
                  have hb : bg (tl s) k = (2, i + 1) := by
                    rw [hbr]
                    unfold brk
                    rw [hcl]
                  have hbl := bg_long (tl s) k (by rw [hb])
                  rw [hb, hl] at hbl
                  have hI0 : prs (tl s) f (i + 1) row ((L).map Prod.fst ++ [ins (pc (tl s) (k + 2) i)]) = R := by
                    rw [← HI.out, prs_long (lt_tl hlt) (by rw [hb]), hb, hfl, HRE.out]
                    rfl
                  have hi : ¬ (i : Int) < 0 := by omega
                  simp only [clI] at kC
                  have hx := pc_ext s (k + 2) i
                  have hxl := pc_len (tl s) (k + 2) i
                  have hxt : tl (s.extract (k + 2) i) = pc (tl s) (k + 2) i := by rw [hx]; exact tl_mk _
                  have hbl1 := hbl.1
                  have hbl2 := hbl.2
                  simp only at hbl1 hbl2
                  have kI := fun w => rinner_any (s.extract (k + 2) i) (by rw [hx, mk_size]; omega) w
                  rw [hxt] at kI
                  generalize hXT : s.extract (k + 2) i = XT at kI
                  have hXT' : s.extract (k + 2) i = XT := hXT
                  generalize hip : ins (pc (tl s) (k + 2) i) = ip at kI hI0
                  have HI' := hide' hI0
                  have hkb : (k : Int) + 2 ≤ (i : Int) := by omega
                  have hkc : (i : Int) ≤ (s.size : Int) := by omega
                  rcases h3 with h3 | h3
                  · have e1 : ((s[k + 1].toNat : Int) != 40) = false := bne_no _ 40 40 rfl h3
                    · clear h1 h3 h36 hga hgb hl hcl hbr HI hfl hb hI0 hip hx hxt hXT hbl
                      go_wp2_with (first | (go_at_call 26; refine (kC _).mono ?_; rintro e w4 ⟨rfl, rfl⟩) | (go_at_call 27; refine (kI _).mono ?_; rintro e w5 ⟨v5, rfl, ⟨av, rfl, har⟩, hb5⟩; have hQ5 := (hQ).below hb5; have har5 : ArgV w5 w.heap.size (ip, av) := own_mono har hsz; have hsz5 : w.heap.size ≤ w5.heap.size := Nat.le_trans hsz hb5.size; obtain ⟨a0, ac, rfl⟩ := own_len har) | (at_builtin; refine wpList_addP (by simp) rfl _ _ rfl hQ5 (ip, .slice a0 ip.args.length ac) ip.kind (mk ip.text) (mk ip.name) (.slice a0 ip.args.length ac) rfl rfl har5 (by first | omega | (simp; omega)) hsz5 rfl rfl ?_; intro g6 cap6 w6 hQ6 hB6))
                      have hB5 := (hB).trans (hb5.mono (hB).size)
                      exact ⟨⟨i + 1, f, row, L ++ [((ip, .slice a0 ip.args.length ac) : Px)], by omega, by omega, by first | omega | simp, by simp; omega, by go_num, by simpa using hQ6, hB5.trans hB6, by rw [List.map_append]; exact HI'.out⟩, by simp [intOf]; omega⟩
                  · have e1 : ((s[k + 1].toNat : Int) != 40) = true := bne_yes _ 40 40 rfl (by rw [h3]; decide)
                    have e2 : ((s[k + 1].toNat : Int) != 123) = false := bne_no _ 123 123 rfl h3
                    · clear h1 h3 h36 hga hgb hl hcl hbr HI hfl hb hI0 hip hx hxt hXT hbl
                      go_wp2_with (first | (go_at_call 26; refine (kC _).mono ?_; rintro e w4 ⟨rfl, rfl⟩) | (go_at_call 27; refine (kI _).mono ?_; rintro e w5 ⟨v5, rfl, ⟨av, rfl, har⟩, hb5⟩; have hQ5 := (hQ).below hb5; have har5 : ArgV w5 w.heap.size (ip, av) := own_mono har hsz; have hsz5 : w.heap.size ≤ w5.heap.size := Nat.le_trans hsz hb5.size; obtain ⟨a0, ac, rfl⟩ := own_len har) | (at_builtin; refine wpList_addP (by simp) rfl _ _ rfl hQ5 (ip, .slice a0 ip.args.length ac) ip.kind (mk ip.text) (mk ip.name) (.slice a0 ip.args.length ac) rfl rfl har5 (by first | omega | (simp; omega)) hsz5 rfl rfl ?_; intro g6 cap6 w6 hQ6 hB6))
                      have hB5 := (hB).trans (hb5.mono (hB).size)
                      exact ⟨⟨i + 1, f, row, L ++ [((ip, .slice a0 ip.args.length ac) : Px)], by omega, by omega, by first | omega | simp, by simp; omega, by go_num, by simpa using hQ6, hB5.trans hB6, by rw [List.map_append]; exact HI'.out⟩, by simp [intOf]; omega⟩
              · have e1 : ((s[k + 1].toNat : Int) != 40) = true := bne_yes _ 40 40 rfl (fun h => h3 (.inl h))
                have e2 : ((s[k + 1].toNat : Int) != 123) = true := bne_yes _ 123 123 rfl (fun h => h3 (.inr h))
                have hb : bg (tl s) k = (1, k + 2) := by
                  unfold bg
                  rw [hga, hgb, hl, if_pos ⟨h1, h2⟩, if_neg h36, if_neg (fun h => h3 h.symm)]
                have HI' : Hid (prs (tl s) f (k + 2) row ((L ++ [((vr (pc (tl s) (k + 1) (k + 2)), .slice none 0 0) : Px)]).map Prod.fst) = R) := by
                  show _ = _
                  rw [← HI.out, prs_short (lt_tl hlt) (by rw [hb]), hb, hfl, List.map_append, HRE.out]
                  rfl
                have hx := pc_ext s (k + 1) (k + 2)
                have hvv : ptC (vr (pc (tl s) (k + 1) (k + 2)), .slice none 0 0) = [.int .i64 2, .string (mk (pc (tl s) (k + 1) (k + 2))), .string ⟨#[]⟩, .slice none 0 0] := rfl
                have hva : (vr (pc (tl s) (k + 1) (k + 2))).args = [] := rfl
                generalize mk (pc (tl s) (k + 1) (k + 2)) = X at hx hvv
                generalize vr (pc (tl s) (k + 1) (k + 2)) = vp at HI' hvv hva
                have HV := hide' hvv
                have HA := hide' hva
                have hkb : (k : Int) + 2 ≤ (s.size : Int) := by omega
                · clear h1 h3 h36 hga hgb hl hb HI hfl hvv hva
                  go_wp2_with (at_builtin; refine wpList_addP (by simp) rfl _ _ rfl hQ (vp, .slice none 0 0) 2 X ⟨#[]⟩ (.slice none 0 0) HV.out rfl (by unfold ArgV; rw [HA.out]; exact World.ownsRow_nil _ _ _ _) (by first | omega | (simp; omega)) hsz rfl rfl ?_; intro g3 cap3 w3 hQ3 hB3)
                  exact ⟨⟨k + 2, f, row, L ++ [((vp, .slice none 0 0) : Px)], by omega, by omega, by first | omega | simp, by simp; omega, by go_num, by simpa using hQ3, hB.trans hB3, HI'⟩, by simp [intOf]; omega⟩
            · skip
              have hcv := row_str hQ.row hre
              have hfl : fl row (L.map Prod.fst) = (L ++ [byP row]).map Prod.fst := by unfold fl; rw [if_neg hre, List.map_append]; rfl
              have dr : (0 : Int) < (row.length : Int) := by have := List.length_pos_iff.2 hre; omega
              have hTT : ptC (byP row) = [.int .i64 1, .string (mk row), .string ⟨#[]⟩, .slice none 0 0] := rfl
              generalize mk row = T at hcv hTT
              have HT := hide' hTT
              clear hTT hre
              by_cases h3 : s[k + 1] = 40 ∨ s[k + 1] = 123
              · have kC := fun w => closing_any s hs k h2 s[k + 1] rfl h3 w
                have hbr : bg (tl s) k = brk (tl s) s[k + 1] (k + 1) := by
                  unfold bg
                  rw [hga, hgb, hl, if_pos ⟨h1, h2⟩, if_neg h36, if_pos h3.symm]
                cases hcl : cls s[k + 1] (shut s[k + 1]) (k + 2) 0 ((tl s).drop (k + 2)) with
                | none =>
                  rw [hcl] at kC
                  have HR' : Hid (R = none) := by
                    show _ = _
                    rw [← HI.out, prs_lost (lt_tl hlt) (by rw [hbr]; unfold brk; rw [hcl])]
                  simp only [clI] at kC
                  rcases h3 with h3 | h3
                  · have e1 : ((s[k + 1].toNat : Int) != 40) = false := bne_no _ 40 40 rfl h3
                    · clear h1 h3 h36 hga hgb hl hcl hbr HI hfl
                      go_wp2_with (first | (at_builtin; refine wpList_addP rfl rfl _ _ rfl hQ (byP row) 1 T ⟨#[]⟩ (.slice none 0 0) HT.out rfl (World.ownsRow_nil _ _ _ _) (by omega) hsz rfl rfl ?_; intro g2 cap2 w2 hQ2 hB2; have hQ2' := hQ2.none; have hsz2 : w.heap.size ≤ w2.heap.size := Nat.le_trans hsz hB2.size; clear hQ2 HT hcv) | (go_at_call 26; refine (kC _).mono ?_; rintro e w4 ⟨rfl, rfl⟩))
                      go_ret2
                      rw [HR'.out]
                      exact ⟨rfl, hB.trans hB2⟩
                  · have e1 : ((s[k + 1].toNat : Int) != 40) = true := bne_yes _ 40 40 rfl (by rw [h3]; decide)
                    have e2 : ((s[k + 1].toNat : Int) != 123) = false := bne_no _ 123 123 rfl h3
                    · clear h1 h3 h36 hga hgb hl hcl hbr HI hfl
                      go_wp2_with (first | (at_builtin; refine wpList_addP rfl rfl _ _ rfl hQ (byP row) 1 T ⟨#[]⟩ (.slice none 0 0) HT.out rfl (World.ownsRow_nil _ _ _ _) (by omega) hsz rfl rfl ?_; intro g2 cap2 w2 hQ2 hB2; have hQ2' := hQ2.none; have hsz2 : w.heap.size ≤ w2.heap.size := Nat.le_trans hsz hB2.size; clear hQ2 HT hcv) | (go_at_call 26; refine (kC _).mono ?_; rintro e w4 ⟨rfl, rfl⟩))
                      go_ret2
                      rw [HR'.out]
                      exact ⟨rfl, hB.trans hB2⟩
                | some i =>
                  rw [hcl] at kC
                  have hb : bg (tl s) k = (2, i + 1) := by
                    rw [hbr]
                    unfold brk
                    rw [hcl]
                  have hbl := bg_long (tl s) k (by rw [hb])
                  rw [hb, hl] at hbl
                  have hI0 : prs (tl s) f (i + 1) [] ((L ++ [byP row]).map Prod.fst ++ [ins (pc (tl s) (k + 2) i)]) = R := by
                    rw [← HI.out, prs_long (lt_tl hlt) (by rw [hb]), hb, hfl]
                    rfl
                  have hi : ¬ (i : Int) < 0 := by omega
                  simp only [clI] at kC
                  have hx := pc_ext s (k + 2) i
                  have hxl := pc_len (tl s) (k + 2) i
                  have hxt : tl (s.extract (k + 2) i) = pc (tl s) (k + 2) i := by rw [hx]; exact tl_mk _
                  have hbl1 := hbl.1
                  have hbl2 := hbl.2
                  simp only at hbl1 hbl2
                  have kI := fun w => rinner_any (s.extract (k + 2) i) (by rw [hx, mk_size]; omega) w
                  rw [hxt] at kI
                  generalize hXT : s.extract (k + 2) i = XT at kI
                  have hXT' : s.extract (k + 2) i = XT := hXT
                  generalize hip : ins (pc (tl s) (k + 2) i) = ip at kI hI0
                  have HI' := hide' hI0
                  have hkb : (k : Int) + 2 ≤ (i : Int) := by omega
                  have hkc : (i : Int) ≤ (s.size : Int) := by omega
                  rcases h3 with h3 | h3
                  · have e1 : ((s[k + 1].toNat : Int) != 40) = false := bne_no _ 40 40 rfl h3
                    · clear h1 h3 h36 hga hgb hl hcl hbr HI hfl hb hI0 hip hx hxt hXT hbl
                      go_wp2_with (first | (at_builtin; refine wpList_addP rfl rfl _ _ rfl hQ (byP row) 1 T ⟨#[]⟩ (.slice none 0 0) HT.out rfl (World.ownsRow_nil _ _ _ _) (by omega) hsz rfl rfl ?_; intro g2 cap2 w2 hQ2 hB2; have hQ2' := hQ2.none; have hsz2 : w.heap.size ≤ w2.heap.size := Nat.le_trans hsz hB2.size; clear hQ2 HT hcv) | (go_at_call 26; refine (kC _).mono ?_; rintro e w4 ⟨rfl, rfl⟩) | (go_at_call 27; refine (kI _).mono ?_; rintro e w5 ⟨v5, rfl, ⟨av, rfl, har⟩, hb5⟩; have hQ5 := (hQ2').below hb5; have har5 : ArgV w5 w.heap.size (ip, av) := own_mono har hsz2; have hsz5 : w.heap.size ≤ w5.heap.size := Nat.le_trans hsz2 hb5.size; obtain ⟨a0, ac, rfl⟩ := own_len har) | (at_builtin; refine wpList_addP (by simp) rfl _ _ rfl hQ5 (ip, .slice a0 ip.args.length ac) ip.kind (mk ip.text) (mk ip.name) (.slice a0 ip.args.length ac) rfl rfl har5 (by first | omega | (simp; omega)) hsz5 rfl rfl ?_; intro g6 cap6 w6 hQ6 hB6))
                      have hB5 := (hB.trans hB2).trans (hb5.mono (hB.trans hB2).size)
                      exact ⟨⟨i + 1, f, [], L ++ [byP row] ++ [((ip, .slice a0 ip.args.length ac) : Px)], by omega, by omega, by first | omega | simp, by simp; omega, by go_num, by simpa using hQ6, hB5.trans hB6, by rw [List.map_append]; exact HI'.out⟩, by simp [intOf]; omega⟩
                  · have e1 : ((s[k + 1].toNat : Int) != 40) = true := bne_yes _ 40 40 rfl (by rw [h3]; decide)
                    have e2 : ((s[k + 1].toNat : Int) != 123) = false := bne_no _ 123 123 rfl h3
                    · clear h1 h3 h36 hga hgb hl hcl hbr HI hfl hb hI0 hip hx hxt hXT hbl
                      go_wp2_with (first | (at_builtin; refine wpList_addP rfl rfl _ _ rfl hQ (byP row) 1 T ⟨#[]⟩ (.slice none 0 0) HT.out rfl (World.ownsRow_nil _ _ _ _) (by omega) hsz rfl rfl ?_; intro g2 cap2 w2 hQ2 hB2; have hQ2' := hQ2.none; have hsz2 : w.heap.size ≤ w2.heap.size := Nat.le_trans hsz hB2.size; clear hQ2 HT hcv) | (go_at_call 26; refine (kC _).mono ?_; rintro e w4 ⟨rfl, rfl⟩) | (go_at_call 27; refine (kI _).mono ?_; rintro e w5 ⟨v5, rfl, ⟨av, rfl, har⟩, hb5⟩; have hQ5 := (hQ2').below hb5; have har5 : ArgV w5 w.heap.size (ip, av) := own_mono har hsz2; have hsz5 : w.heap.size ≤ w5.heap.size := Nat.le_trans hsz2 hb5.size; obtain ⟨a0, ac, rfl⟩ := own_len har) | (at_builtin; refine wpList_addP (by simp) rfl _ _ rfl hQ5 (ip, .slice a0 ip.args.length ac) ip.kind (mk ip.text) (mk ip.name) (.slice a0 ip.args.length ac) rfl rfl har5 (by first | omega | (simp; omega)) hsz5 rfl rfl ?_; intro g6 cap6 w6 hQ6 hB6))
                      have hB5 := (hB.trans hB2).trans (hb5.mono (hB.trans hB2).size)
                      exact ⟨⟨i + 1, f, [], L ++ [byP row] ++ [((ip, .slice a0 ip.args.length ac) : Px)], by omega, by omega, by first | omega | simp, by simp; omega, by go_num, by simpa using hQ6, hB5.trans hB6, by rw [List.map_append]; exact HI'.out⟩, by simp [intOf]; omega⟩
              · have e1 : ((s[k + 1].toNat : Int) != 40) = true := bne_yes _ 40 40 rfl (fun h => h3 (.inl h))
                have e2 : ((s[k + 1].toNat : Int) != 123) = true := bne_yes _ 123 123 rfl (fun h => h3 (.inr h))
                have hb : bg (tl s) k = (1, k + 2) := by
                  unfold bg
                  rw [hga, hgb, hl, if_pos ⟨h1, h2⟩, if_neg h36, if_neg (fun h => h3 h.symm)]
                have HI' : Hid (prs (tl s) f (k + 2) [] ((L ++ [byP row] ++ [((vr (pc (tl s) (k + 1) (k + 2)), .slice none 0 0) : Px)]).map Prod.fst) = R) := by
                  show _ = _
                  rw [← HI.out, prs_short (lt_tl hlt) (by rw [hb]), hb, hfl, List.map_append]
                  rfl
                have hx := pc_ext s (k + 1) (k + 2)
                have hvv : ptC (vr (pc (tl s) (k + 1) (k + 2)), .slice none 0 0) = [.int .i64 2, .string (mk (pc (tl s) (k + 1) (k + 2))), .string ⟨#[]⟩, .slice none 0 0] := rfl
                have hva : (vr (pc (tl s) (k + 1) (k + 2))).args = [] := rfl
                generalize mk (pc (tl s) (k + 1) (k + 2)) = X at hx hvv
                generalize vr (pc (tl s) (k + 1) (k + 2)) = vp at HI' hvv hva
                have HV := hide' hvv
                have HA := hide' hva
                have hkb : (k : Int) + 2 ≤ (s.size : Int) := by omega
                · clear h1 h3 h36 hga hgb hl hb HI hfl hvv hva
                  go_wp2_with (first | (at_builtin; refine wpList_addP rfl rfl _ _ rfl hQ (byP row) 1 T ⟨#[]⟩ (.slice none 0 0) HT.out rfl (World.ownsRow_nil _ _ _ _) (by omega) hsz rfl rfl ?_; intro g2 cap2 w2 hQ2 hB2; have hQ2' := hQ2.none; have hsz2 : w.heap.size ≤ w2.heap.size := Nat.le_trans hsz hB2.size; clear hQ2 HT hcv) | (at_builtin; refine wpList_addP (by simp) rfl _ _ rfl hQ2' (vp, .slice none 0 0) 2 X ⟨#[]⟩ (.slice none 0 0) HV.out rfl (by unfold ArgV; rw [HA.out]; exact World.ownsRow_nil _ _ _ _) (by first | omega | (simp; omega)) hsz2 rfl rfl ?_; intro g3 cap3 w3 hQ3 hB3))
                  exact ⟨⟨k + 2, f, [], L ++ [byP row] ++ [((vp, .slice none 0 0) : Px)], by omega, by omega, by first | omega | simp, by simp; omega, by go_num, by simpa using hQ3, (hB.trans hB2).trans hB3, HI'⟩, by simp [intOf]; omega⟩
        · have d2 : decide ((s.size : Int) ≤ (k : Int) + 1) = true := decide_eq_true (by omega)
          have d2' : decide ((k : Int) + 1 < (s.size : Int)) = false := decide_eq_false (by omega)
          have hb : bg (tl s) k = (0, k + 1) := by
            unfold bg
            rw [hl, if_neg (fun h => h2 h.2)]
          have HI' : Hid (prs (tl s) f (k + 1) (row ++ [s[k]]) (L.map Prod.fst) = R) := by
            show _ = _
            rw [← HI.out, prs_byte (lt_tl hlt) (by rw [hb]), hb, hga]
          clear h1 hga hl hb HI
          go_wp2_with (at_builtin; refine wpList_addB rfl _ _ rfl hQ s[k] (by omega) hsz rfl rfl ?_; intro g2 cap2 w2 hQ2 hB2)
          exact ⟨⟨k + 1, f, row ++ [s[k]], L, by omega, by omega, by simp; omega, by omega, by go_num, hQ2, hB.trans hB2, HI'⟩, by simp [intOf]; omega⟩
      · have d1 : ((s[k].toNat : Int) != 36) = true := bne_yes _ 36 36 rfl h1
        have d1' : ((s[k].toNat : Int) == 36) = false := beq_no _ 36 36 rfl h1
        have hb : bg (tl s) k = (0, k + 1) := by
          unfold bg
          rw [hga, if_neg (fun h => h1 h.1)]
        have HI' : Hid (prs (tl s) f (k + 1) (row ++ [s[k]]) (L.map Prod.fst) = R) := by
          show _ = _
          rw [← HI.out, prs_byte (lt_tl hlt) (by rw [hb]), hb, hga]
        · clear h1 hga hl hb HI
          go_wp2_with (at_builtin; refine wpList_addB rfl _ _ rfl hQ s[k] (by omega) hsz rfl rfl ?_; intro g2 cap2 w2 hQ2 hB2)
          exact ⟨⟨k + 1, f, row ++ [s[k]], L, by omega, by omega, by simp; omega, by omega, by go_num, hQ2, hB.trans hB2, HI'⟩, by simp [intOf]; omega⟩
    · obtain ⟨f, rfl⟩ : ∃ f', f = f' + 1 := ⟨f - 1, by omega⟩
      have HR' : Hid (R = some ((flL L row).map Prod.fst)) := by
        show _ = _
        rw [← HI.out, prs_end (by rw [tl_len]; exact hlt), flL_fst]
      rcases Decidable.em (row = []) with hre | hre
      · have hfl : flL L row = L := by unfold flL; rw [if_pos hre]
        rw [hfl] at HR'
        have dr : ¬ (0 : Int) < (row.length : Int) := by rw [hre]; simp
        clear HI hfl hre
        go_wp2
        go_ret2
        rw [HR'.out]
        exact ⟨⟨_, rfl, _, rfl, hQ.list, hQ.args⟩, hB⟩
      · have hfl : flL L row = L ++ [byP row] := by unfold flL; rw [if_neg hre]
        rw [hfl] at HR'
        have hcv := row_str hQ.row hre
        have dr : (0 : Int) < (row.length : Int) := by have := List.length_pos_iff.2 hre; omega
        have hTT : ptC (byP row) = [.int .i64 1, .string (mk row), .string ⟨#[]⟩, .slice none 0 0] := rfl
        generalize mk row = T at hcv hTT
        have HT := hide' hTT
        clear hTT hre HI hfl
        go_wp2_with (at_builtin; refine wpList_addP rfl rfl _ _ rfl hQ (byP row) 1 T ⟨#[]⟩ (.slice none 0 0) HT.out rfl (World.ownsRow_nil _ _ _ _) (by omega) hsz rfl rfl ?_; intro g2 cap2 w2 hQ2 hB2; have hQ2' := hQ2.none; have hsz2 : w.heap.size ≤ w2.heap.size := Nat.le_trans hsz hB2.size; clear hQ2 HT hcv)
        go_ret2
        rw [HR'.out]
        exact ⟨⟨_, rfl, _, rfl, by simpa using hQ2'.list, hQ2'.args⟩, hB.trans hB2⟩
end Go.Proofs.YtaemmgllhmjceaaDoor
