/- The law SeekOrder answers true. -/
import Derived.Test.YtabmnkddmdffkaaGreatDoorAAlv
import Derived.Test.YtabmnkddmdffkaaGreatDoorAOpl
import Derived.Test.YtabmnkddmdffkaaGreatDoorACnv
namespace Go.Proofs.YtabmnkddmdffkaaGreatDoor.Sk
open Go.RowKit Go.Shelf

theorem new_empty : newR [] 0 1000 = .inr [] := by kernel_rfl
/-- two pairs in a row -/
theorem prs_two {W : World} {b : Nat} {x y x' y' : ByteArray} (h : W.heap[b]? = some (.cells #[.string x, .string y, .string x', .string y'] 29 (0, 0))) : Prs W (some ⟨b, 0, none⟩) 2 [(x, y), (x', y')] :=
  ⟨rfl, fun j hj => by
    rcases j with _ | _ | j
    · exact ⟨b, rfl, lt_of_block h, ⟨_, h, rfl⟩, (x, y), rfl, by rw [Lib.cell_of_heap h]; rfl, by rw [Lib.cell_of_heap h]; rfl⟩
    · exact ⟨b, rfl, lt_of_block h, ⟨_, h, rfl⟩, (x', y'), rfl, by rw [Lib.cell_of_heap h]; rfl, by rw [Lib.cell_of_heap h]; rfl⟩
    · omega⟩
/-- between two rounds of the law's first loop -/
structure OrI (w : World) (A inn k : Nat) (W : World) : Prop where
  fs : IsFs W (fun i => w.heap.size ≤ i) A (oSt inn k).1 (oSt inn k).2 1000
  bel : Below w.heap.size w W
set_option maxRecDepth 100000 in
set_option maxHeartbeats 4000000 in
theorem order_any (B : Nat) (Ea E : Addr) (a b : Int) (here vp : Bool) (w : World) (hG : Gl B w Ea E) (hB : B ≤ w.heap.size) :
    Calls Tryz.prog 4 #[.int .i64 a, .int .i64 b, .bool here, .bool vp] w fun r w' => r = .returned (.bool true) ∧ Below w.heap.size w w' := by
  have qa := alive_any B Ea E w hG hB
  have HG := hide' hG
  clear hG
  by_cases h1 : a < 1
  · go_enter Tryz.func4, Tryz.ntmps4
    go_wp2_with fail
    refine qa.mono ?_
    rintro r w1 ⟨rfl, hb1⟩
    go_wp2
    go_ret
    exact ⟨rfl, hb1⟩
  by_cases h2 : 9 < a
  · go_enter Tryz.func4, Tryz.ntmps4
    go_wp2_with fail
    refine qa.mono ?_
    rintro r w1 ⟨rfl, hb1⟩
    go_wp2
    go_ret
    exact ⟨rfl, hb1⟩
  by_cases h3 : b < 0
  · go_enter Tryz.func4, Tryz.ntmps4
    go_wp2_with fail
    refine qa.mono ?_
    rintro r w1 ⟨rfl, hb1⟩
    go_wp2
    go_ret
    exact ⟨rfl, hb1⟩
  by_cases h4 : a < b
  · go_enter Tryz.func4, Tryz.ntmps4
    go_wp2_with fail
    refine qa.mono ?_
    rintro r w1 ⟨rfl, hb1⟩
    go_wp2
    go_ret
    exact ⟨rfl, hb1⟩
  obtain ⟨n, rfl⟩ : ∃ n : Nat, a = n := ⟨a.toNat, by omega⟩
  obtain ⟨inn, rfl⟩ : ∃ inn : Nat, b = inn := ⟨b.toNat, by omega⟩
  have hn1 : 1 ≤ n := by omega
  have hn9 : n ≤ 9 := by omega
  have hin : inn ≤ n := by omega
  go_enter Tryz.func4, Tryz.ntmps4
  go_wp2_with fail
  refine qa.mono ?_
  rintro r w1 ⟨rfl, hb1⟩
  have q1 := New_any B E (.slice none 0 0) [] 0 1000 w1 (.inl ⟨⟨none, 0, rfl⟩, rfl⟩) (HG.out.glo.keep (hb1.mono hB)) (Nat.le_trans hB hb1.size) (by intro n hn; cases hn)
  rw [new_empty] at q1
  clear qa
  go_wp2_with fail
  refine q1.mono ?_
  rintro r w2 ⟨hb2, A, rfl, hf2⟩
  have hI0 : OrI w A inn 0 w2 := ⟨hf2.mono fun i hi => Nat.le_trans hb1.size hi, hb1.trans (hb2.mono hb1.size)⟩
  have he := fun w => eq_fs_nil A w
  clear q1 hb1 hb2 hf2
  go_wp2_with fail
  go_loopw [12, 13] (fun d i wr => ∃ k : Nat, k ≤ n ∧ d = .string (mk (dT k)) ∧ i = .int .i64 k ∧ OrI w A inn k wr) (fun _ i _ => n - (intOf i).toNat)
  case atStart => exact ⟨0, Nat.zero_le _, rfl, rfl, hI0⟩
  case round =>
    obtain ⟨k, hk, rfl, rfl, hI⟩ := hrel
    by_cases hlt : k < n
    · have hex := dk_ext k (by omega)
      have hdl := dT_len k (by omega)
      have hck := o_clk (k := k) hn9 hin hk
      have hGw := HG.out.keep (hI.bel.mono hB)
      have hsz := hI.bel.size
      have q2 := Mkdir_any B A E (oSt inn k).1 (oSt inn k).2 1000 (mk (dk k)) _ wr hI.fs hGw.glo (Nat.le_trans hB hsz) (fun i hi => Nat.le_trans hB hi) (by omega) (by rw [mk_size]; exact Nat.le_trans (Nat.le_of_eq rfl : (dk k).length ≤ 2) (by decide))
      rw [tl_mk] at q2
      have HEX := hide' hex
      have HI := hide' hI
      clear hex hI hI0
      go_wp2_with fail
      rw [HEX.out]
      refine q2.mono ?_
      intro r w3 hr
      obtain ⟨rfl, hf3, hb3'⟩ := num_from hr (fun i => Iff.rfl) hsz
      have hb3 := HI.out.bel.trans hb3'
      have hs3 := hb3.size
      have hG3 := (HG.out.keep (hb3.mono hB)).glo
      have hd2 : (dk k).length ≤ 2 := Nat.le_of_eq rfl
      have hc2 := hck.2.2
      obtain ⟨mm, hmm⟩ : ∃ mm, mm = (mkdirR (oSt inn k).1 (oSt inn k).2 1000 (clean (dk k))).2 := ⟨_, rfl⟩
      rw [← hmm] at hf3 hc2
      obtain ⟨T1, c1⟩ := mm
      have HT1 := hide' hmm.symm
      simp only at hf3 hc2
      clear hmm hr hb3' q2 hck HI
      by_cases hz : k = 0
      · by_cases hw : inn ≤ k
        · have hdT : mk (dT k) ++ mk (dk k) = mk (dT (k + 1)) := tl_inj _ _ (by rw [tl_app, tl_mk, tl_mk, tl_mk]; simp only [dT, if_pos hz]; rfl)
          have hz3 : decide (0 < k) = false := decide_eq_false (by omega)
          have hz4 : decide ((0 : Int) < (k : Int)) = false := decide_eq_false (by omega)
          have hw2 : decide ((inn : Int) ≤ (k : Int)) = true := decide_eq_true (by omega)
          have hw3 : decide (inn ≤ k) = true := decide_eq_true hw
          have hex2 : mk (dk k) ++ ⟨#[47, 120]⟩ = mk (dk k ++ [47, 120]) := tl_inj _ _ (by rw [tl_app, tl_mk, tl_mk]; rfl)
          have q3 := Write_any B A E T1 c1 1000 (mk (dk k ++ [47, 120])) [] (.slice none 0 0) false _ w3 hf3 hG3 (Nat.le_trans hB hs3) (fun i hi => Nat.le_trans hB hi) (by omega) (by rw [mk_size]; exact Nat.le_trans (Nat.le_of_eq rfl : (dk k ++ [47, 120]).length ≤ 4) (by decide)) (.inl ⟨rfl, rfl⟩) (by decide)
          rw [tl_mk, ← hex2] at q3
          have HO : Hid ((oSt inn (k + 1)) = (writeR T1 c1 1000 (clean (dk k ++ [47, 120])) [] false).2) := by show _ = _; rw [oSt, HT1.out]; exact if_pos hw
          have HDT := hide' hdT
          clear hex2 hdT hz hw
          go_wp2_with fail
          refine q3.mono ?_
          intro r w4 hr
          obtain ⟨rfl, hf4, hb4⟩ := num_from hr (fun i => Iff.rfl) hs3
          have hI4 : OrI w A inn (k + 1) w4 := ⟨by rw [HO.out]; exact hf4, hb3.trans hb4⟩
          clear q3 hr hf4 hb4
          go_wp2_with fail
          exact ⟨⟨k + 1, by omega, by rw [HDT.out], by go_num, hI4⟩, by simp [intOf]; omega⟩
        · have hdT : mk (dT k) ++ mk (dk k) = mk (dT (k + 1)) := tl_inj _ _ (by rw [tl_app, tl_mk, tl_mk, tl_mk]; simp only [dT, if_pos hz]; rfl)
          have hz3 : decide (0 < k) = false := decide_eq_false (by omega)
          have hz4 : decide ((0 : Int) < (k : Int)) = false := decide_eq_false (by omega)
          have hw2 : decide ((inn : Int) ≤ (k : Int)) = false := decide_eq_false (by omega)
          have hw3 : decide (inn ≤ k) = false := decide_eq_false hw
          have hI4 : OrI w A inn (k + 1) w3 := ⟨by rw [oSt, HT1.out, if_neg hw]; exact hf3, hb3⟩
          have HDT := hide' hdT
          clear hdT hz hw
          go_wp2_with fail
          exact ⟨⟨k + 1, by omega, by rw [HDT.out], by go_num, hI4⟩, by simp [intOf]; omega⟩
      · by_cases hw : inn ≤ k
        · have hdT : mk (dT k) ++ ⟨#[58]⟩ ++ mk (dk k) = mk (dT (k + 1)) := tl_inj _ _ (by rw [tl_app, tl_app, tl_mk, tl_mk, tl_mk, List.append_assoc]; simp only [dT, if_neg hz]; rfl)
          have hz2 : 0 < k := by omega
          have hz3 : decide (0 < k) = true := decide_eq_true hz2
          have hw2 : decide ((inn : Int) ≤ (k : Int)) = true := decide_eq_true (by omega)
          have hw3 : decide (inn ≤ k) = true := decide_eq_true hw
          have hex2 : mk (dk k) ++ ⟨#[47, 120]⟩ = mk (dk k ++ [47, 120]) := tl_inj _ _ (by rw [tl_app, tl_mk, tl_mk]; rfl)
          have q3 := Write_any B A E T1 c1 1000 (mk (dk k ++ [47, 120])) [] (.slice none 0 0) false _ w3 hf3 hG3 (Nat.le_trans hB hs3) (fun i hi => Nat.le_trans hB hi) (by omega) (by rw [mk_size]; exact Nat.le_trans (Nat.le_of_eq rfl : (dk k ++ [47, 120]).length ≤ 4) (by decide)) (.inl ⟨rfl, rfl⟩) (by decide)
          rw [tl_mk, ← hex2] at q3
          have HO : Hid ((oSt inn (k + 1)) = (writeR T1 c1 1000 (clean (dk k ++ [47, 120])) [] false).2) := by show _ = _; rw [oSt, HT1.out]; exact if_pos hw
          have HDT := hide' hdT
          clear hex2 hdT hz hw
          go_wp2_with fail
          refine q3.mono ?_
          intro r w4 hr
          obtain ⟨rfl, hf4, hb4⟩ := num_from hr (fun i => Iff.rfl) hs3
          have hI4 : OrI w A inn (k + 1) w4 := ⟨by rw [HO.out]; exact hf4, hb3.trans hb4⟩
          clear q3 hr hf4 hb4
          go_wp2_with fail
          exact ⟨⟨k + 1, by omega, by rw [HDT.out], by go_num, hI4⟩, by simp [intOf]; omega⟩
        · have hdT : mk (dT k) ++ ⟨#[58]⟩ ++ mk (dk k) = mk (dT (k + 1)) := tl_inj _ _ (by rw [tl_app, tl_app, tl_mk, tl_mk, tl_mk, List.append_assoc]; simp only [dT, if_neg hz]; rfl)
          have hz2 : 0 < k := by omega
          have hz3 : decide (0 < k) = true := decide_eq_true hz2
          have hw2 : decide ((inn : Int) ≤ (k : Int)) = false := decide_eq_false (by omega)
          have hw3 : decide (inn ≤ k) = false := decide_eq_false hw
          have hI4 : OrI w A inn (k + 1) w3 := ⟨by rw [oSt, HT1.out, if_neg hw]; exact hf3, hb3⟩
          have HDT := hide' hdT
          clear hdT hz hw
          go_wp2_with fail
          exact ⟨⟨k + 1, by omega, by rw [HDT.out], by go_num, hI4⟩, by simp [intOf]; omega⟩
    · have hkn : n = k := by omega
      subst hkn
      have hck := o_clk (k := n) hn9 hin (Nat.le_refl _)
      have hsz := hI.bel.size
      have HI := hide' hI
      clear hI hI0
      cases here with
      | true =>
        cases vp with
        | true =>
          have q3 := Write_any B A E (oSt inn n).1 (oSt inn n).2 1000 ⟨#[120]⟩ [] (.slice none 0 0) false _ wr HI.out.fs (HG.out.keep (HI.out.bel.mono hB)).glo (Nat.le_trans hB hsz) (fun i hi => Nat.le_trans hB hi) (by omega) (by decide) (.inl ⟨rfl, rfl⟩) (by decide)
          go_wp2_with fail
          refine q3.mono ?_
          intro r w5 hr
          obtain ⟨rfl, hf5, hb5'⟩ := num_from hr (fun i => Iff.rfl) hsz
          have hb5 := HI.out.bel.trans hb5'
          have hf5 : IsFs w5 (fun i => w.heap.size ≤ i) A (rT inn n true).1 (rT inn n true).2 1000 := hf5
          clear q3 hr hb5'
          have hs5 := hb5.size
          obtain ⟨w6, hw6⟩ : ∃ w6, w6 = w5.alloc (.cells (bsC none 0 0) 43) := ⟨_, rfl⟩
          have hb6 : Below w5.heap.size w5 w6 := by rw [hw6]; exact (Below.refl _ _).alloc (Nat.le_refl _) _
          have hs6 : w6.heap.size = w5.heap.size + 1 := by rw [hw6]; simp
          have hbb0 : w6.heap[w5.heap.size]? = some (.cells (bsC none 0 0) 43 (0, 0)) := by rw [hw6]; exact World.alloc_heap_new w5 _
          obtain ⟨hcv, hbc, hby⟩ := conv_by w6 (dT n)
          have hdl := dT_len n hn9
          obtain ⟨X, hX⟩ : ∃ X, X = dT n := ⟨_, rfl⟩
          rw [← hX] at hcv hby hbc hdl ⊢
          obtain ⟨m, hm⟩ : ∃ m, m = X.length := ⟨_, rfl⟩
          rw [← hm] at hcv hdl
          obtain ⟨cp, hcp⟩ : ∃ cp, cp = grownCap w6 m 0 5 := ⟨_, rfl⟩
          rw [← hcp] at hcv
          obtain ⟨wc, hwc⟩ : ∃ wc, wc = Lib.bytesWorld w6 5 (mk X) := ⟨_, rfl⟩
          rw [← hwc] at hcv hby hbc
          obtain ⟨g, hg⟩ : ∃ g, g = w6.heap.size := ⟨_, rfl⟩
          rw [← hg] at hcv hby
          rw [hw6] at hcv
          have HX := hide' hX
          have HM := hide' hm
          have HBY := hide' hby
          have HGG := hide' hg
          have hmc : m ≤ cp := by rw [hcp]; exact grownCap_ge _ _ _ _
          clear hX hm hcp hwc hg hby
          go_wp2_with fail
          go_loopw [17] (fun i wr => ∃ j : Nat, j ≤ m ∧ i = .int .i64 j ∧ ByAt wr g (gone X j) ∧ Below w6.heap.size w6 wr) (fun i _ => m - (intOf i).toNat)
          case atStart => exact ⟨0, Nat.zero_le _, rfl, by rw [gone_none]; exact HBY.out, hbc⟩
          case round =>
            obtain ⟨j, hj, rfl, hB1, hB2⟩ := hrel
            by_cases hlt : j < m
            · have hjl : j < X.length := by have := HM.out; omega
              have hjg : j < (gone X j).length := by rw [gone_len]; exact hjl
              obtain ⟨x, hx⟩ : ∃ x, x = X[j] := ⟨_, rfl⟩
              have hc := hB1.cel j hjg
              rw [gone_at X j hjl, ← hx] at hc
              have hf := hB1.frz j hjg
              by_cases h58 : x = 58
              · have k1 := beq_yes x 58 58 rfl h58
                have k2 : (x.toNat : Int) = 58 := by rw [h58]; rfl
                have hB3 : ByAt (wr.setCell ⟨g, j, none⟩ (.int .u8 32)) g (gone X (j + 1)) := by
                  rw [gone_yes X j hjl (hx.symm.trans h58)]
                  exact hB1.set j hjg 32
                have hB4 : Below w6.heap.size w6 (wr.setCell ⟨g, j, none⟩ (.int .u8 32)) := hB2.setCell (p := ⟨g, j, none⟩) (by rw [HGG.out]; exact Nat.le_refl _) _
                have HB3 := hide' hB3
                have HB4 := hide' hB4
                clear hx hjl hjg hB1 hB2 hB3 hB4 h58
                go_wp2
                exact ⟨⟨j + 1, by omega, by go_num, HB3.out, HB4.out⟩, by simp [intOf]; omega⟩
              · have k1 := beq_no x 58 58 rfl h58
                have k2 : ¬ (x.toNat : Int) = 58 := fun e => h58 (UInt8.toNat_inj.1 (by have : (58 : UInt8).toNat = 58 := rfl; omega))
                have hB3 : ByAt wr g (gone X (j + 1)) := by
                  rw [gone_no X j hjl (fun e => h58 (hx.trans e))]
                  exact hB1
                clear hx hjl hjg hB1 h58
                go_wp2
                exact ⟨⟨j + 1, by omega, by go_num, hB3, hB2⟩, by simp [intOf]; omega⟩
            · have hjm : m = j := by omega
              subst hjm
              rw [HM.out, gone_all] at hB1
              have hst := rds_str (hB1.rds (n := m) (cap := cp) (by rw [cmap_len]; exact HM.out))
              have hbb1 := (hB2.block w5.heap.size (by omega)).trans hbb0
              have hsz2 := hB2.size
              have hbbo : ∀ o, (wr.alloc o).heap[w5.heap.size]? = some (.cells (bsC none 0 0) 43 (0, 0)) := fun o => (Below.heap_alloc _ _ _ (by omega)).trans hbb1
              have ca2 : ∀ o, (wr.alloc o).cell? ⟨w5.heap.size, 2, none⟩ = some (.slice none 0 0) := fun o => by rw [Lib.cell_of_heap (hbbo o)]; rfl
              have ca0 : ∀ o, (wr.alloc o).cell? ⟨w5.heap.size, 0, none⟩ = some (.slice none 0 0) := fun o => by rw [Lib.cell_of_heap (hbbo o)]; rfl
              have ca1 : ∀ o, (wr.alloc o).cell? ⟨w5.heap.size, 1, none⟩ = some (.slice none 0 0) := fun o => by rw [Lib.cell_of_heap (hbbo o)]; rfl
              have ca3 : ∀ o, (wr.alloc o).cell? ⟨w5.heap.size, 3, none⟩ = some (.slice none 0 0) := fun o => by rw [Lib.cell_of_heap (hbbo o)]; rfl
              have ca4 : ∀ o, (wr.alloc o).cell? ⟨w5.heap.size, 4, none⟩ = some (.slice none 0 0) := fun o => by rw [Lib.cell_of_heap (hbbo o)]; rfl
              have ca5 : ∀ o, (wr.alloc o).cell? ⟨w5.heap.size, 5, none⟩ = some (.string ⟨#[]⟩) := fun o => by rw [Lib.cell_of_heap (hbbo o)]; rfl
              have ca6 : ∀ o, (wr.alloc o).cell? ⟨w5.heap.size, 6, none⟩ = some (.slice none 0 0) := fun o => by rw [Lib.cell_of_heap (hbbo o)]; rfl
              have cf2 : ∀ o, (wr.alloc o).frozen? ⟨w5.heap.size, 2, none⟩ = false := fun o => Lib.frozen_of_heap (hbbo o) 2
              obtain ⟨tx, htx⟩ : ∃ tx, tx = mk (cmap X) := ⟨_, rfl⟩
              rw [← htx] at hst
              obtain ⟨w8, hw8⟩ : ∃ w8, w8 = (wr.alloc (.cells #[.string ⟨#[121, 37]⟩, .string ⟨#[100, 48]⟩, .string ⟨#[37]⟩, .string tx] 29)).setCell ⟨w5.heap.size, 2, none⟩ (.slice (some ⟨wr.heap.size, 0, none⟩) 2 2) := ⟨_, rfl⟩
              have hbb : w8.heap[w5.heap.size]? = some (.cells (bsC (some ⟨wr.heap.size, 0, none⟩) 2 2) 43 (0, 0)) := by rw [hw8]; exact set_row (hbbo _) 2 _
              have hpr0 : w8.heap[wr.heap.size]? = some (.cells #[.string ⟨#[121, 37]⟩, .string ⟨#[100, 48]⟩, .string ⟨#[37]⟩, .string tx] 29 (0, 0)) := by
                rw [hw8]; exact (Below.heap_setCell _ _ _ _ (by simp only; omega)).trans (World.alloc_heap_new wr _)
              have hpr : Prs w8 (some ⟨wr.heap.size, 0, none⟩) 2 (oL n true) := by
                have h1 := prs_two hpr0
                rw [htx, HX.out] at h1
                exact h1
              have hbx : Below w6.heap.size w6 (wr.alloc (.cells #[.string ⟨#[121, 37]⟩, .string ⟨#[100, 48]⟩, .string ⟨#[37]⟩, .string tx] 29)) := hB2.alloc hB2.size _
              have hbF : Below w.heap.size w w8 := by
                rw [hw8]
                exact ((hb5.trans (hb6.mono hs5)).trans (hbx.mono (by omega))).setCell (p := ⟨w5.heap.size, 2, none⟩) hs5 _
              have hfF : IsFs w8 (fun i => w.heap.size ≤ i) A (rT inn n true).1 (rT inn n true).2 1000 := by
                have hb58 : Below w5.heap.size w5 w8 := by
                  rw [hw8]
                  exact (hb6.trans (hbx.mono (by omega))).setCell (p := ⟨w5.heap.size, 2, none⟩) (Nat.le_refl _) _
                exact hf5.below hb58
              have hds : (⟨#[]⟩ : ByteArray).size ≤ 100000 := by decide
              have hls : ∀ p ∈ oL n true, p.1.size ≤ 100000 ∧ p.2.size ≤ 100000 := by
                intro p hp
                have h1 := dT_len n hn9
                simp only [oL, if_true, List.mem_cons, List.not_mem_nil, or_false] at hp
                rcases hp with rfl | rfl
                · decide
                · refine ⟨?_, by rw [mk_size, cmap_len]; omega⟩
                  show (1 : Nat) ≤ 100000
                  decide
              have hpd : plL (oL n true) (tl ⟨#[120]⟩) (tl ⟨#[]⟩) = plL (oL n true) [120] (oD n true) := rfl
              have hpd2 : fndP (fun p => stT (rT inn n true).1 (clean p)) (oL n true) (tl ⟨#[120]⟩) (tl ⟨#[]⟩) = fndP (fun p => stT (rT inn n true).1 (clean p)) (oL n true) [120] (oD n true) := rfl
              have cb0 : w8.cell? ⟨w5.heap.size, 0, none⟩ = some (.slice none 0 0) := by rw [Lib.cell_of_heap hbb]; rfl
              have cb1 : w8.cell? ⟨w5.heap.size, 1, none⟩ = some (.slice none 0 0) := by rw [Lib.cell_of_heap hbb]; rfl
              have cb2 : w8.cell? ⟨w5.heap.size, 2, none⟩ = some (.slice (some ⟨wr.heap.size, 0, none⟩) 2 2) := by rw [Lib.cell_of_heap hbb]; rfl
              have cb3 : w8.cell? ⟨w5.heap.size, 3, none⟩ = some (.slice none 0 0) := by rw [Lib.cell_of_heap hbb]; rfl
              have cb4 : w8.cell? ⟨w5.heap.size, 4, none⟩ = some (.slice none 0 0) := by rw [Lib.cell_of_heap hbb]; rfl
              have cb5 : w8.cell? ⟨w5.heap.size, 5, none⟩ = some (.string ⟨#[]⟩) := by rw [Lib.cell_of_heap hbb]; rfl
              have cb6 : w8.cell? ⟨w5.heap.size, 6, none⟩ = some (.slice none 0 0) := by rw [Lib.cell_of_heap hbb]; rfl
              have hpl := o_pl (n := n) hn9 true
              have qf := Find_any B A Ea E (some ⟨wr.heap.size, 0, none⟩) 2 2 (oL n true) ⟨#[120]⟩ ⟨#[]⟩ (fun p => stT (rT inn n true).1 (clean p)) (by omega) (by decide) hds hls w8 (HG.out.keep (hbF.mono hB)) (Nat.le_trans hB hbF.size) hpr
                (ch_of B A Ea E _ _ 1000 _ _ hfF (HG.out.keep (hbF.mono hB)) (Nat.le_trans hB hbF.size) _ (fun y hy => (hpl y (hpd ▸ hy)).1) (fun y hy => (hpl y (hpd ▸ hy)).2))
              have hof := o_find hn1 hn9 hin true true
              rw [hpd2, hof] at qf
              clear hpl hof hpr hbb hfF
              rw [hw8] at cb0 cb1 cb2 cb3 cb4 cb5 cb6 qf
              clear hf5 hb6 hbb0 hpd hpd2 hds hls HI hb5 hbx hpr0 hB1 hB2 hbbo hbb1 htx
              rw [show oR inn n true = ([120], true) from rfl] at qf
              go_wp2_with fail
              refine qf.mono ?_
              rintro r w9 ⟨rfl, hb9⟩
              rw [← hw8] at hb9
              have hbE := hbF.trans (hb9.mono hbF.size)
              clear qf hb9
              go_wp2
              go_ret
              exact ⟨rfl, hbE⟩
        | false =>
          have q3 := Write_any B A E (oSt inn n).1 (oSt inn n).2 1000 ⟨#[120]⟩ [] (.slice none 0 0) false _ wr HI.out.fs (HG.out.keep (HI.out.bel.mono hB)).glo (Nat.le_trans hB hsz) (fun i hi => Nat.le_trans hB hi) (by omega) (by decide) (.inl ⟨rfl, rfl⟩) (by decide)
          go_wp2_with fail
          refine q3.mono ?_
          intro r w5 hr
          obtain ⟨rfl, hf5, hb5'⟩ := num_from hr (fun i => Iff.rfl) hsz
          have hb5 := HI.out.bel.trans hb5'
          have hf5 : IsFs w5 (fun i => w.heap.size ≤ i) A (rT inn n true).1 (rT inn n true).2 1000 := hf5
          clear q3 hr hb5'
          have hs5 := hb5.size
          obtain ⟨w6, hw6⟩ : ∃ w6, w6 = w5.alloc (.cells (bsC none 0 0) 43) := ⟨_, rfl⟩
          have hb6 : Below w5.heap.size w5 w6 := by rw [hw6]; exact (Below.refl _ _).alloc (Nat.le_refl _) _
          have hs6 : w6.heap.size = w5.heap.size + 1 := by rw [hw6]; simp
          have hbb0 : w6.heap[w5.heap.size]? = some (.cells (bsC none 0 0) 43 (0, 0)) := by rw [hw6]; exact World.alloc_heap_new w5 _
          have hbF := hb5.trans (hb6.mono hs5)
          have hfF := hf5.below hb6
          have hbb := hbb0
          have hds : (mk (dT n)).size ≤ 100000 := by rw [mk_size]; have := dT_len n hn9; omega
          have hls : ∀ p ∈ oL n false, p.1.size ≤ 100000 ∧ p.2.size ≤ 100000 := by intro p hp; cases hp
          have hpr : Prs w6 none 0 (oL n false) := prs_none _ _
          have hpd : plL (oL n false) (tl ⟨#[120]⟩) (tl (mk (dT n))) = plL (oL n false) [120] (oD n false) := rfl
          have hpd2 : fndP (fun p => stT (rT inn n true).1 (clean p)) (oL n false) (tl ⟨#[120]⟩) (tl (mk (dT n))) = fndP (fun p => stT (rT inn n true).1 (clean p)) (oL n false) [120] (oD n false) := rfl
          have cb0 : w6.cell? ⟨w5.heap.size, 0, none⟩ = some (.slice none 0 0) := by rw [Lib.cell_of_heap hbb]; rfl
          have cb1 : w6.cell? ⟨w5.heap.size, 1, none⟩ = some (.slice none 0 0) := by rw [Lib.cell_of_heap hbb]; rfl
          have cb2 : w6.cell? ⟨w5.heap.size, 2, none⟩ = some (.slice none 0 0) := by rw [Lib.cell_of_heap hbb]; rfl
          have cb3 : w6.cell? ⟨w5.heap.size, 3, none⟩ = some (.slice none 0 0) := by rw [Lib.cell_of_heap hbb]; rfl
          have cb4 : w6.cell? ⟨w5.heap.size, 4, none⟩ = some (.slice none 0 0) := by rw [Lib.cell_of_heap hbb]; rfl
          have cb5 : w6.cell? ⟨w5.heap.size, 5, none⟩ = some (.string ⟨#[]⟩) := by rw [Lib.cell_of_heap hbb]; rfl
          have cb6 : w6.cell? ⟨w5.heap.size, 6, none⟩ = some (.slice none 0 0) := by rw [Lib.cell_of_heap hbb]; rfl
          have hpl := o_pl (n := n) hn9 false
          have qf := Find_any B A Ea E none 0 0 (oL n false) ⟨#[120]⟩ (mk (dT n)) (fun p => stT (rT inn n true).1 (clean p)) (by omega) (by decide) hds hls w6 (HG.out.keep (hbF.mono hB)) (Nat.le_trans hB hbF.size) hpr
            (ch_of B A Ea E _ _ 1000 _ _ hfF (HG.out.keep (hbF.mono hB)) (Nat.le_trans hB hbF.size) _ (fun y hy => (hpl y (hpd ▸ hy)).1) (fun y hy => (hpl y (hpd ▸ hy)).2))
          have hof := o_find hn1 hn9 hin true false
          rw [hpd2, hof] at qf
          clear hpl hof hpr hbb hfF
          rw [hw6] at cb0 cb1 cb2 cb3 cb4 cb5 cb6 qf
          clear hf5 hb6 hbb0 hpd hpd2 hds hls HI hb5
          rw [show oR inn n true = ([120], true) from rfl] at qf
          go_wp2_with fail
          refine qf.mono ?_
          rintro r w9 ⟨rfl, hb9⟩
          rw [← hw6] at hb9
          have hbE := hbF.trans (hb9.mono hbF.size)
          clear qf hb9
          go_wp2
          go_ret
          exact ⟨rfl, hbE⟩
      | false =>
        cases vp with
        | true =>
          obtain ⟨w5, hw5⟩ : ∃ w5, w5 = wr := ⟨_, rfl⟩
          rw [← hw5]
          have hb5 := HI.out.bel
          have hf5 : IsFs wr (fun i => w.heap.size ≤ i) A (rT inn n false).1 (rT inn n false).2 1000 := HI.out.fs
          rw [← hw5] at hb5 hf5
          clear hw5
          have hs5 := hb5.size
          obtain ⟨w6, hw6⟩ : ∃ w6, w6 = w5.alloc (.cells (bsC none 0 0) 43) := ⟨_, rfl⟩
          have hb6 : Below w5.heap.size w5 w6 := by rw [hw6]; exact (Below.refl _ _).alloc (Nat.le_refl _) _
          have hs6 : w6.heap.size = w5.heap.size + 1 := by rw [hw6]; simp
          have hbb0 : w6.heap[w5.heap.size]? = some (.cells (bsC none 0 0) 43 (0, 0)) := by rw [hw6]; exact World.alloc_heap_new w5 _
          obtain ⟨hcv, hbc, hby⟩ := conv_by w6 (dT n)
          have hdl := dT_len n hn9
          obtain ⟨X, hX⟩ : ∃ X, X = dT n := ⟨_, rfl⟩
          rw [← hX] at hcv hby hbc hdl ⊢
          obtain ⟨m, hm⟩ : ∃ m, m = X.length := ⟨_, rfl⟩
          rw [← hm] at hcv hdl
          obtain ⟨cp, hcp⟩ : ∃ cp, cp = grownCap w6 m 0 5 := ⟨_, rfl⟩
          rw [← hcp] at hcv
          obtain ⟨wc, hwc⟩ : ∃ wc, wc = Lib.bytesWorld w6 5 (mk X) := ⟨_, rfl⟩
          rw [← hwc] at hcv hby hbc
          obtain ⟨g, hg⟩ : ∃ g, g = w6.heap.size := ⟨_, rfl⟩
          rw [← hg] at hcv hby
          rw [hw6] at hcv
          have HX := hide' hX
          have HM := hide' hm
          have HBY := hide' hby
          have HGG := hide' hg
          have hmc : m ≤ cp := by rw [hcp]; exact grownCap_ge _ _ _ _
          clear hX hm hcp hwc hg hby
          go_wp2_with fail
          go_loopw [17] (fun i wr => ∃ j : Nat, j ≤ m ∧ i = .int .i64 j ∧ ByAt wr g (gone X j) ∧ Below w6.heap.size w6 wr) (fun i _ => m - (intOf i).toNat)
          case atStart => exact ⟨0, Nat.zero_le _, rfl, by rw [gone_none]; exact HBY.out, hbc⟩
          case round =>
            obtain ⟨j, hj, rfl, hB1, hB2⟩ := hrel
            by_cases hlt : j < m
            · have hjl : j < X.length := by have := HM.out; omega
              have hjg : j < (gone X j).length := by rw [gone_len]; exact hjl
              obtain ⟨x, hx⟩ : ∃ x, x = X[j] := ⟨_, rfl⟩
              have hc := hB1.cel j hjg
              rw [gone_at X j hjl, ← hx] at hc
              have hf := hB1.frz j hjg
              by_cases h58 : x = 58
              · have k1 := beq_yes x 58 58 rfl h58
                have k2 : (x.toNat : Int) = 58 := by rw [h58]; rfl
                have hB3 : ByAt (wr.setCell ⟨g, j, none⟩ (.int .u8 32)) g (gone X (j + 1)) := by
                  rw [gone_yes X j hjl (hx.symm.trans h58)]
                  exact hB1.set j hjg 32
                have hB4 : Below w6.heap.size w6 (wr.setCell ⟨g, j, none⟩ (.int .u8 32)) := hB2.setCell (p := ⟨g, j, none⟩) (by rw [HGG.out]; exact Nat.le_refl _) _
                have HB3 := hide' hB3
                have HB4 := hide' hB4
                clear hx hjl hjg hB1 hB2 hB3 hB4 h58
                go_wp2
                exact ⟨⟨j + 1, by omega, by go_num, HB3.out, HB4.out⟩, by simp [intOf]; omega⟩
              · have k1 := beq_no x 58 58 rfl h58
                have k2 : ¬ (x.toNat : Int) = 58 := fun e => h58 (UInt8.toNat_inj.1 (by have : (58 : UInt8).toNat = 58 := rfl; omega))
                have hB3 : ByAt wr g (gone X (j + 1)) := by
                  rw [gone_no X j hjl (fun e => h58 (hx.trans e))]
                  exact hB1
                clear hx hjl hjg hB1 h58
                go_wp2
                exact ⟨⟨j + 1, by omega, by go_num, hB3, hB2⟩, by simp [intOf]; omega⟩
            · have hjm : m = j := by omega
              subst hjm
              rw [HM.out, gone_all] at hB1
              have hst := rds_str (hB1.rds (n := m) (cap := cp) (by rw [cmap_len]; exact HM.out))
              have hbb1 := (hB2.block w5.heap.size (by omega)).trans hbb0
              have hsz2 := hB2.size
              have hbbo : ∀ o, (wr.alloc o).heap[w5.heap.size]? = some (.cells (bsC none 0 0) 43 (0, 0)) := fun o => (Below.heap_alloc _ _ _ (by omega)).trans hbb1
              have ca2 : ∀ o, (wr.alloc o).cell? ⟨w5.heap.size, 2, none⟩ = some (.slice none 0 0) := fun o => by rw [Lib.cell_of_heap (hbbo o)]; rfl
              have ca0 : ∀ o, (wr.alloc o).cell? ⟨w5.heap.size, 0, none⟩ = some (.slice none 0 0) := fun o => by rw [Lib.cell_of_heap (hbbo o)]; rfl
              have ca1 : ∀ o, (wr.alloc o).cell? ⟨w5.heap.size, 1, none⟩ = some (.slice none 0 0) := fun o => by rw [Lib.cell_of_heap (hbbo o)]; rfl
              have ca3 : ∀ o, (wr.alloc o).cell? ⟨w5.heap.size, 3, none⟩ = some (.slice none 0 0) := fun o => by rw [Lib.cell_of_heap (hbbo o)]; rfl
              have ca4 : ∀ o, (wr.alloc o).cell? ⟨w5.heap.size, 4, none⟩ = some (.slice none 0 0) := fun o => by rw [Lib.cell_of_heap (hbbo o)]; rfl
              have ca5 : ∀ o, (wr.alloc o).cell? ⟨w5.heap.size, 5, none⟩ = some (.string ⟨#[]⟩) := fun o => by rw [Lib.cell_of_heap (hbbo o)]; rfl
              have ca6 : ∀ o, (wr.alloc o).cell? ⟨w5.heap.size, 6, none⟩ = some (.slice none 0 0) := fun o => by rw [Lib.cell_of_heap (hbbo o)]; rfl
              have cf2 : ∀ o, (wr.alloc o).frozen? ⟨w5.heap.size, 2, none⟩ = false := fun o => Lib.frozen_of_heap (hbbo o) 2
              obtain ⟨tx, htx⟩ : ∃ tx, tx = mk (cmap X) := ⟨_, rfl⟩
              rw [← htx] at hst
              obtain ⟨w8, hw8⟩ : ∃ w8, w8 = (wr.alloc (.cells #[.string ⟨#[121, 37]⟩, .string ⟨#[100, 48]⟩, .string ⟨#[37]⟩, .string tx] 29)).setCell ⟨w5.heap.size, 2, none⟩ (.slice (some ⟨wr.heap.size, 0, none⟩) 2 2) := ⟨_, rfl⟩
              have hbb : w8.heap[w5.heap.size]? = some (.cells (bsC (some ⟨wr.heap.size, 0, none⟩) 2 2) 43 (0, 0)) := by rw [hw8]; exact set_row (hbbo _) 2 _
              have hpr0 : w8.heap[wr.heap.size]? = some (.cells #[.string ⟨#[121, 37]⟩, .string ⟨#[100, 48]⟩, .string ⟨#[37]⟩, .string tx] 29 (0, 0)) := by
                rw [hw8]; exact (Below.heap_setCell _ _ _ _ (by simp only; omega)).trans (World.alloc_heap_new wr _)
              have hpr : Prs w8 (some ⟨wr.heap.size, 0, none⟩) 2 (oL n true) := by
                have h1 := prs_two hpr0
                rw [htx, HX.out] at h1
                exact h1
              have hbx : Below w6.heap.size w6 (wr.alloc (.cells #[.string ⟨#[121, 37]⟩, .string ⟨#[100, 48]⟩, .string ⟨#[37]⟩, .string tx] 29)) := hB2.alloc hB2.size _
              have hbF : Below w.heap.size w w8 := by
                rw [hw8]
                exact ((hb5.trans (hb6.mono hs5)).trans (hbx.mono (by omega))).setCell (p := ⟨w5.heap.size, 2, none⟩) hs5 _
              have hfF : IsFs w8 (fun i => w.heap.size ≤ i) A (rT inn n false).1 (rT inn n false).2 1000 := by
                have hb58 : Below w5.heap.size w5 w8 := by
                  rw [hw8]
                  exact (hb6.trans (hbx.mono (by omega))).setCell (p := ⟨w5.heap.size, 2, none⟩) (Nat.le_refl _) _
                exact hf5.below hb58
              have hds : (⟨#[]⟩ : ByteArray).size ≤ 100000 := by decide
              have hls : ∀ p ∈ oL n true, p.1.size ≤ 100000 ∧ p.2.size ≤ 100000 := by
                intro p hp
                have h1 := dT_len n hn9
                simp only [oL, if_true, List.mem_cons, List.not_mem_nil, or_false] at hp
                rcases hp with rfl | rfl
                · decide
                · refine ⟨?_, by rw [mk_size, cmap_len]; omega⟩
                  show (1 : Nat) ≤ 100000
                  decide
              have hpd : plL (oL n true) (tl ⟨#[120]⟩) (tl ⟨#[]⟩) = plL (oL n true) [120] (oD n true) := rfl
              have hpd2 : fndP (fun p => stT (rT inn n false).1 (clean p)) (oL n true) (tl ⟨#[120]⟩) (tl ⟨#[]⟩) = fndP (fun p => stT (rT inn n false).1 (clean p)) (oL n true) [120] (oD n true) := rfl
              have cb0 : w8.cell? ⟨w5.heap.size, 0, none⟩ = some (.slice none 0 0) := by rw [Lib.cell_of_heap hbb]; rfl
              have cb1 : w8.cell? ⟨w5.heap.size, 1, none⟩ = some (.slice none 0 0) := by rw [Lib.cell_of_heap hbb]; rfl
              have cb2 : w8.cell? ⟨w5.heap.size, 2, none⟩ = some (.slice (some ⟨wr.heap.size, 0, none⟩) 2 2) := by rw [Lib.cell_of_heap hbb]; rfl
              have cb3 : w8.cell? ⟨w5.heap.size, 3, none⟩ = some (.slice none 0 0) := by rw [Lib.cell_of_heap hbb]; rfl
              have cb4 : w8.cell? ⟨w5.heap.size, 4, none⟩ = some (.slice none 0 0) := by rw [Lib.cell_of_heap hbb]; rfl
              have cb5 : w8.cell? ⟨w5.heap.size, 5, none⟩ = some (.string ⟨#[]⟩) := by rw [Lib.cell_of_heap hbb]; rfl
              have cb6 : w8.cell? ⟨w5.heap.size, 6, none⟩ = some (.slice none 0 0) := by rw [Lib.cell_of_heap hbb]; rfl
              have hpl := o_pl (n := n) hn9 true
              have qf := Find_any B A Ea E (some ⟨wr.heap.size, 0, none⟩) 2 2 (oL n true) ⟨#[120]⟩ ⟨#[]⟩ (fun p => stT (rT inn n false).1 (clean p)) (by omega) (by decide) hds hls w8 (HG.out.keep (hbF.mono hB)) (Nat.le_trans hB hbF.size) hpr
                (ch_of B A Ea E _ _ 1000 _ _ hfF (HG.out.keep (hbF.mono hB)) (Nat.le_trans hB hbF.size) _ (fun y hy => (hpl y (hpd ▸ hy)).1) (fun y hy => (hpl y (hpd ▸ hy)).2))
              have hof := o_find hn1 hn9 hin false true
              rw [hpd2, hof] at qf
              clear hpl hof hpr hbb hfF
              rw [hw8] at cb0 cb1 cb2 cb3 cb4 cb5 cb6 qf
              clear hf5 hb6 hbb0 hpd hpd2 hds hls HI hb5 hbx hpr0 hB1 hB2 hbbo hbb1 htx
              by_cases hne : inn = n
              · rw [show oR inn n false = ([120], false) by unfold oR; rw [if_neg (by decide), if_pos hne]] at qf
                have hq1 : decide (inn = n) = true := decide_eq_true hne
                have hq2 : ((inn : Int) == (n : Int)) = true := by rw [hne]; simp
                have HNE := hide' hne
                clear hne
                go_wp2_with fail
                refine qf.mono ?_
                rintro r w9 ⟨rfl, hb9⟩
                rw [← hw8] at hb9
                have hbE := hbF.trans (hb9.mono hbF.size)
                clear qf hb9
                go_wp2
                all_goals first | (go_ret; exact ⟨rfl, hbE⟩) | (exfalso; have := HNE.out; omega)
              · rw [show oR inn n false = (dk inn ++ [47, 120], true) by unfold oR; rw [if_neg (by decide), if_neg hne]] at qf
                have hq2 : ((inn : Int) == (n : Int)) = false := beq_eq_false_iff_ne.2 (by omega)
                have hex := dk_ext inn (by omega)
                have hex2 : mk (dk inn) ++ ⟨#[47, 120]⟩ = mk (dk inn ++ [47, 120]) := tl_inj _ _ (by rw [tl_app, tl_mk, tl_mk]; rfl)
                have hd2 : (dk inn).length ≤ 2 := Nat.le_of_eq rfl
                rw [← hex2, ← hex] at qf
                have hin2 : inn < n := by omega
                obtain ⟨xs, hxs⟩ : ∃ xs, xs = (⟨#[100]⟩ : ByteArray) ++ (⟨#[48, 49, 50, 51, 52, 53, 54, 55, 56, 57]⟩ : ByteArray).extract inn (inn + 1) ++ ⟨#[47, 120]⟩ := ⟨_, rfl⟩
                clear hex hex2
                go_wp2_with fail
                refine qf.mono ?_
                rintro r w9 ⟨rfl, hb9⟩
                rw [← hw8] at hb9
                have hbE := hbF.trans (hb9.mono hbF.size)
                clear qf hb9
                go_wp2
                go_ret
                exact ⟨rfl, hbE⟩
        | false =>
          obtain ⟨w5, hw5⟩ : ∃ w5, w5 = wr := ⟨_, rfl⟩
          rw [← hw5]
          have hb5 := HI.out.bel
          have hf5 : IsFs wr (fun i => w.heap.size ≤ i) A (rT inn n false).1 (rT inn n false).2 1000 := HI.out.fs
          rw [← hw5] at hb5 hf5
          clear hw5
          have hs5 := hb5.size
          obtain ⟨w6, hw6⟩ : ∃ w6, w6 = w5.alloc (.cells (bsC none 0 0) 43) := ⟨_, rfl⟩
          have hb6 : Below w5.heap.size w5 w6 := by rw [hw6]; exact (Below.refl _ _).alloc (Nat.le_refl _) _
          have hs6 : w6.heap.size = w5.heap.size + 1 := by rw [hw6]; simp
          have hbb0 : w6.heap[w5.heap.size]? = some (.cells (bsC none 0 0) 43 (0, 0)) := by rw [hw6]; exact World.alloc_heap_new w5 _
          have hbF := hb5.trans (hb6.mono hs5)
          have hfF := hf5.below hb6
          have hbb := hbb0
          have hds : (mk (dT n)).size ≤ 100000 := by rw [mk_size]; have := dT_len n hn9; omega
          have hls : ∀ p ∈ oL n false, p.1.size ≤ 100000 ∧ p.2.size ≤ 100000 := by intro p hp; cases hp
          have hpr : Prs w6 none 0 (oL n false) := prs_none _ _
          have hpd : plL (oL n false) (tl ⟨#[120]⟩) (tl (mk (dT n))) = plL (oL n false) [120] (oD n false) := rfl
          have hpd2 : fndP (fun p => stT (rT inn n false).1 (clean p)) (oL n false) (tl ⟨#[120]⟩) (tl (mk (dT n))) = fndP (fun p => stT (rT inn n false).1 (clean p)) (oL n false) [120] (oD n false) := rfl
          have cb0 : w6.cell? ⟨w5.heap.size, 0, none⟩ = some (.slice none 0 0) := by rw [Lib.cell_of_heap hbb]; rfl
          have cb1 : w6.cell? ⟨w5.heap.size, 1, none⟩ = some (.slice none 0 0) := by rw [Lib.cell_of_heap hbb]; rfl
          have cb2 : w6.cell? ⟨w5.heap.size, 2, none⟩ = some (.slice none 0 0) := by rw [Lib.cell_of_heap hbb]; rfl
          have cb3 : w6.cell? ⟨w5.heap.size, 3, none⟩ = some (.slice none 0 0) := by rw [Lib.cell_of_heap hbb]; rfl
          have cb4 : w6.cell? ⟨w5.heap.size, 4, none⟩ = some (.slice none 0 0) := by rw [Lib.cell_of_heap hbb]; rfl
          have cb5 : w6.cell? ⟨w5.heap.size, 5, none⟩ = some (.string ⟨#[]⟩) := by rw [Lib.cell_of_heap hbb]; rfl
          have cb6 : w6.cell? ⟨w5.heap.size, 6, none⟩ = some (.slice none 0 0) := by rw [Lib.cell_of_heap hbb]; rfl
          have hpl := o_pl (n := n) hn9 false
          have qf := Find_any B A Ea E none 0 0 (oL n false) ⟨#[120]⟩ (mk (dT n)) (fun p => stT (rT inn n false).1 (clean p)) (by omega) (by decide) hds hls w6 (HG.out.keep (hbF.mono hB)) (Nat.le_trans hB hbF.size) hpr
            (ch_of B A Ea E _ _ 1000 _ _ hfF (HG.out.keep (hbF.mono hB)) (Nat.le_trans hB hbF.size) _ (fun y hy => (hpl y (hpd ▸ hy)).1) (fun y hy => (hpl y (hpd ▸ hy)).2))
          have hof := o_find hn1 hn9 hin false false
          rw [hpd2, hof] at qf
          clear hpl hof hpr hbb hfF
          rw [hw6] at cb0 cb1 cb2 cb3 cb4 cb5 cb6 qf
          clear hf5 hb6 hbb0 hpd hpd2 hds hls HI hb5
          by_cases hne : inn = n
          · rw [show oR inn n false = ([120], false) by unfold oR; rw [if_neg (by decide), if_pos hne]] at qf
            have hq1 : decide (inn = n) = true := decide_eq_true hne
            have hq2 : ((inn : Int) == (n : Int)) = true := by rw [hne]; simp
            have HNE := hide' hne
            clear hne
            go_wp2_with fail
            refine qf.mono ?_
            rintro r w9 ⟨rfl, hb9⟩
            rw [← hw6] at hb9
            have hbE := hbF.trans (hb9.mono hbF.size)
            clear qf hb9
            go_wp2
            all_goals first | (go_ret; exact ⟨rfl, hbE⟩) | (exfalso; have := HNE.out; omega)
          · rw [show oR inn n false = (dk inn ++ [47, 120], true) by unfold oR; rw [if_neg (by decide), if_neg hne]] at qf
            have hq2 : ((inn : Int) == (n : Int)) = false := beq_eq_false_iff_ne.2 (by omega)
            have hex := dk_ext inn (by omega)
            have hex2 : mk (dk inn) ++ ⟨#[47, 120]⟩ = mk (dk inn ++ [47, 120]) := tl_inj _ _ (by rw [tl_app, tl_mk, tl_mk]; rfl)
            have hd2 : (dk inn).length ≤ 2 := Nat.le_of_eq rfl
            rw [← hex2, ← hex] at qf
            have hin2 : inn < n := by omega
            obtain ⟨xs, hxs⟩ : ∃ xs, xs = (⟨#[100]⟩ : ByteArray) ++ (⟨#[48, 49, 50, 51, 52, 53, 54, 55, 56, 57]⟩ : ByteArray).extract inn (inn + 1) ++ ⟨#[47, 120]⟩ := ⟨_, rfl⟩
            clear hex hex2
            go_wp2_with fail
            refine qf.mono ?_
            rintro r w9 ⟨rfl, hb9⟩
            rw [← hw6] at hb9
            have hbE := hbF.trans (hb9.mono hbF.size)
            clear qf hb9
            go_wp2
            go_ret
            exact ⟨rfl, hbE⟩
end Go.Proofs.YtabmnkddmdffkaaGreatDoor.Sk
