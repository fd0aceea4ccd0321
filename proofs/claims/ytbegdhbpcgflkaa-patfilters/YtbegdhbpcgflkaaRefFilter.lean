/- The contract of the reference's Filter: it hands back a new list of the words that stay. -/
import Derived.Test.YtbegdhbpcgflkaaFiltPlain
namespace Go.Proofs.Ytbegdhbpcgflkaa
open Go.RowKit Go.Shelf

set_option maxRecDepth 100000 in
set_option maxHeartbeats 4000000 in
theorem rfilter_any (PS L : List ByteArray) (o : Bool) (ap al : Option Addr) (cp cl : Nat) (w : World) (hp : PS.length ≤ 100000) (hl : L.length ≤ 100000) (hps : ∀ j, (PS.getD j ⟨#[]⟩).size ≤ 1000000) (hls : ∀ j, (L.getD j ⟨#[]⟩).size ≤ 1000000)
    (hP : Txt w ap PS) (hL : Txt w al L) :
    Calls Try.prog 20 #[.slice ap PS.length cp, .slice al L.length cl, .bool o] w fun e w' => ∃ v, e = .returned v ∧ w'.ownsRow w.heap.size 9 1 v (flt PS o L).length ((flt PS o L).map Value.string) ∧ Below w.heap.size w w' := by
  obtain ⟨i0, hi, hz0, hz1, hz2⟩ := info_parts info9
  have HP := hide' hP
  have HL := hide' hL
  have HPS := hide' hps
  have HLS := hide' hls
  clear hP hL hps hls
  go_enter Try.func20, Try.ntmps20
  go_wp2
  go_loopw [7, 8] (fun l i wr => ∃ (k : Nat) (P : List ByteArray), k ≤ L.length ∧ i = .int .i64 k ∧ Hid (P = flt PS o (L.take k)) ∧ wr.ownsRow w.heap.size 9 1 l P.length (P.map Value.string) ∧ Below w.heap.size w wr) (fun _ i _ => L.length - (intOf i).toNat)
  case atStart => exact ⟨0, [], Nat.zero_le _, rfl, rfl, World.ownsRow_nil _ _ _ _, Below.refl _ _⟩
  case round =>
    obtain ⟨k, P, hk, rfl, HK, hrow, hB⟩ := hrel
    obtain ⟨wo, rfl⟩ : ∃ wo, wo = wr := ⟨wr, rfl⟩
    obtain ⟨av, cv, rfl⟩ := row_form hrow
    by_cases hlt : k < L.length
    · obtain ⟨x, hx⟩ : ∃ x, x = L.getD k ⟨#[]⟩ := ⟨_, rfl⟩
      have HX := hide' hx
      have hxs : x.size ≤ 1000000 := by rw [hx]; exact HLS.out k
      have HC : Hid (∃ b off, al = some ⟨b, off, none⟩ ∧ wo.cell? ⟨b, off + k, none⟩ = some (.string x)) := by
        obtain ⟨b, off, e, h1, h2⟩ := HL.out k hlt
        exact ⟨b, off, e, (hB.cell (p := ⟨b, off + k, none⟩) h1).trans (by rw [h2, hx])⟩
      have hPl : P.length ≤ 100000 := by
        rw [HK.out]
        have := flt_len PS o (L.take k)
        rw [List.length_take] at this
        omega
      have HB := hide' hB
      have HR := hide' hrow
      clear hx hB hrow
      go_wp2
      go_loopw [9, 10] (fun s i wr => ∃ (j : Nat) (b : Bool) (q : Nat), j ≤ PS.length ∧ i = .int .i64 j ∧ s = .bool b ∧ Hid (b = ay (PS.take j) x) ∧ wr = wo.drewN q) (fun _ i _ => PS.length - (intOf i).toNat)
      case atStart => exact ⟨0, false, 0, Nat.zero_le _, rfl, rfl, rfl, rfl⟩
      case round =>
        obtain ⟨j, b, q, hj, rfl, rfl, HJ, rfl⟩ := hrel
        by_cases hgo : j < PS.length ∧ b = false
        · obtain ⟨hjl, rfl⟩ := hgo
          obtain ⟨y, hy⟩ : ∃ y, y = PS.getD j ⟨#[]⟩ := ⟨_, rfl⟩
          have hys : y.size ≤ 1000000 := by rw [hy]; exact HPS.out j
          have kq := fun w => rmatch_any y x w hys hxs
          have hn := ay_next PS j x hjl
          rw [← HJ.out, Bool.false_or, ← hy] at hn
          have HN := hide' hn.symm
          obtain ⟨bp, op, rfl, p1, p2⟩ := HP.out j hjl
          obtain ⟨bl, ol, rfl, l2⟩ := HC.out
          have c1 : wo.cell? ⟨bp, op + j, none⟩ = some (.string y) := by
            rw [hy]; exact (HB.out.cell (p := ⟨bp, op + j, none⟩) p1).trans p2
          have c2 : wo.cell? ⟨bl, ol + k, none⟩ = some (.string x) := l2
          generalize (mt (tl y) (tl x)).2 = r at kq HN
          generalize mk (mt (tl y) (tl x)).1 = r1 at kq
          clear hn hy p2 l2
          go_wp2
          go_quiet ((go_at_call 8; exact (kq _).mono fun _ _ h => ⟨h.1, _, h.2⟩))
          go_wp2
          exact ⟨⟨j + 1, r, q + nq, by omega, by go_num, rfl, HN, rfl⟩, by simp [intOf]; omega⟩
        · have hb : b = ay PS x := by
            have h1 := HJ.out
            by_cases hjl : j < PS.length
            · have hb1 : b = true := by
                cases b with
                | true => rfl
                | false => exact absurd ⟨hjl, rfl⟩ hgo
              subst hb1
              exact ay_true PS j x h1
            · rw [List.take_of_length_le (by omega)] at h1
              exact h1
          obtain ⟨bl, ol, rfl, l2⟩ := HC.out
          have c2 : (wo.drewN q).cell? ⟨bl, ol + k, none⟩ = some (.string x) := l2
          have hrow : (wo.drewN q).ownsRow w.heap.size 9 1 (.slice av P.length cv) P.length (P.map Value.string) := HR.out
          have hB : Below w.heap.size w (wo.drewN q) := HB.out.trans (below_drewn q)
          have HF : Hid (flt PS o (L.take (k + 1)) = if (b != o) = true then P ++ [x] else P) := by
            show _ = _
            split
            · rename_i h
              rw [HK.out, HX.out]
              exact flt_yes PS o L k hlt (by rw [← HX.out, ← hb]; exact h)
            · rename_i h
              rw [HK.out]
              exact flt_no PS o L k hlt (by rw [← HX.out, ← hb]; simpa using h)
          have hsz := hB.size
          clear hb HK HX HR HB l2 HC HJ
          generalize wo.drewN q = W at c2 hrow hB hsz ⊢
          cases b with
          | true =>
            clear hgo
            by_cases hjl : j < PS.length
            · cases o with
              | true =>
                have HG : Hid (P = flt PS true (L.take (k + 1))) := HF.out.symm
                clear HF
                go_wp2
                exact ⟨⟨k + 1, P, by omega, by go_num, HG, hrow, hB⟩, by simp [intOf]; omega⟩
              | false =>
                have HG : Hid (P ++ [x] = flt PS false (L.take (k + 1))) := HF.out.symm
                clear HF
                go_wp2_with (at_builtin; refine wpList_append_own _ rfl _ _ 30 rfl w.heap.size 9 i0 (.string ⟨#[]⟩) 1 16 Try.underlying30 hi hz0 hz1 hz2 rfl (by decide) _ _ _ rfl (hrow.alloc _) ⟨W.heap.size, 0, none⟩ 1 1 [.string x] rfl rfl (cell_one_new _ _ _) (by simp [Value.oneCell']) (by unfold maxLen; omega) (by omega) (by simp; omega) ?_; intro v' w2 hown' hgrow hif; clear hif; obtain ⟨a2, c3, rfl⟩ := row_form hown'; have hB2 := row_alloc_below hB hsz hrow hgrow; obtain ⟨m, hm⟩ : ∃ m, m = P.length + 1 := ⟨_, rfl⟩; rw [← hm] at hown' ⊢; have HO := hide' hown'; have HMM := hide' hm; have hm1 : m ≤ 100001 := (by omega); clear hown' hgrow hm)
                exact ⟨⟨k + 1, P ++ [x], by omega, by go_num, HG, by rw [List.length_append, List.length_singleton, ← HMM.out, List.map_append]; exact HO.out, hB2⟩, by simp [intOf]; omega⟩
            · cases o with
              | true =>
                have HG : Hid (P = flt PS true (L.take (k + 1))) := HF.out.symm
                clear HF
                go_wp2
                exact ⟨⟨k + 1, P, by omega, by go_num, HG, hrow, hB⟩, by simp [intOf]; omega⟩
              | false =>
                have HG : Hid (P ++ [x] = flt PS false (L.take (k + 1))) := HF.out.symm
                clear HF
                go_wp2_with (at_builtin; refine wpList_append_own _ rfl _ _ 30 rfl w.heap.size 9 i0 (.string ⟨#[]⟩) 1 16 Try.underlying30 hi hz0 hz1 hz2 rfl (by decide) _ _ _ rfl (hrow.alloc _) ⟨W.heap.size, 0, none⟩ 1 1 [.string x] rfl rfl (cell_one_new _ _ _) (by simp [Value.oneCell']) (by unfold maxLen; omega) (by omega) (by simp; omega) ?_; intro v' w2 hown' hgrow hif; clear hif; obtain ⟨a2, c3, rfl⟩ := row_form hown'; have hB2 := row_alloc_below hB hsz hrow hgrow; obtain ⟨m, hm⟩ : ∃ m, m = P.length + 1 := ⟨_, rfl⟩; rw [← hm] at hown' ⊢; have HO := hide' hown'; have HMM := hide' hm; have hm1 : m ≤ 100001 := (by omega); clear hown' hgrow hm)
                exact ⟨⟨k + 1, P ++ [x], by omega, by go_num, HG, by rw [List.length_append, List.length_singleton, ← HMM.out, List.map_append]; exact HO.out, hB2⟩, by simp [intOf]; omega⟩
          | false =>
            have hjl : ¬ j < PS.length := fun h => hgo ⟨h, rfl⟩
            clear hgo
            cases o with
            | true =>
              have HG : Hid (P ++ [x] = flt PS true (L.take (k + 1))) := HF.out.symm
              clear HF
              go_wp2_with (at_builtin; refine wpList_append_own _ rfl _ _ 30 rfl w.heap.size 9 i0 (.string ⟨#[]⟩) 1 16 Try.underlying30 hi hz0 hz1 hz2 rfl (by decide) _ _ _ rfl (hrow.alloc _) ⟨W.heap.size, 0, none⟩ 1 1 [.string x] rfl rfl (cell_one_new _ _ _) (by simp [Value.oneCell']) (by unfold maxLen; omega) (by omega) (by simp; omega) ?_; intro v' w2 hown' hgrow hif; clear hif; obtain ⟨a2, c3, rfl⟩ := row_form hown'; have hB2 := row_alloc_below hB hsz hrow hgrow; obtain ⟨m, hm⟩ : ∃ m, m = P.length + 1 := ⟨_, rfl⟩; rw [← hm] at hown' ⊢; have HO := hide' hown'; have HMM := hide' hm; have hm1 : m ≤ 100001 := (by omega); clear hown' hgrow hm)
              exact ⟨⟨k + 1, P ++ [x], by omega, by go_num, HG, by rw [List.length_append, List.length_singleton, ← HMM.out, List.map_append]; exact HO.out, hB2⟩, by simp [intOf]; omega⟩
            | false =>
              have HG : Hid (P = flt PS false (L.take (k + 1))) := HF.out.symm
              clear HF
              go_wp2
              exact ⟨⟨k + 1, P, by omega, by go_num, HG, hrow, hB⟩, by simp [intOf]; omega⟩
    · have hfin : P = flt PS o L := by rw [HK.out]; exact flt_all PS o L k hlt
      have HF := hide' hfin
      clear hfin HK
      go_wp2
      go_ret
      exact ⟨_, rfl, by rw [← HF.out]; exact hrow, hB⟩
end Go.Proofs.Ytbegdhbpcgflkaa
