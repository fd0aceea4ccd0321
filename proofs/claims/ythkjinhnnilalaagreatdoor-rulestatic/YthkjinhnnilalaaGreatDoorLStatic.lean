/- The law RuleStatic answers true. -/
import Derived.Test.YthkjinhnnilalaaGreatDoorStP
import Derived.Test.YthkjinhnnilalaaGreatDoorPLent
import Derived.Test.YthkjinhnnilalaaGreatDoorAlive
namespace Go.Proofs.YthkjinhnnilalaaGreatDoor
open Go.RowKit Go.Shelf

theorem tl_ap (a b : ByteArray) : tl (a ++ b) = tl a ++ tl b := by simp [tl]
/-- the first k stems are short, of small letters -/
def GoodL (L : List ByteArray) (k : Nat) : Prop := ∀ j, j < k → (L.getD j ⟨#[]⟩).size ≤ 100 ∧ low (L.getD j ⟨#[]⟩)
theorem good_all {L : List ByteArray} (h : GoodL L L.length) : (∀ s ∈ L, low s) ∧ ∀ s ∈ L, s.size ≤ 100 := by
  have key : ∀ s ∈ L, s.size ≤ 100 ∧ low s := fun s hs => by
    obtain ⟨j, hj, rfl⟩ := List.mem_iff_getElem.1 hs
    have := h j hj
    rw [List.getD_eq_getElem?_getD, List.getElem?_eq_getElem hj] at this
    exact this
  exact ⟨fun s hs => (key s hs).2, fun s hs => (key s hs).1⟩
theorem take_map (L : List ByteArray) (k : Nat) (h : k < L.length) : (L.take (k + 1)).map wdx = (L.take k).map wdx ++ [wdx (L.getD k ⟨#[]⟩)] := by
  rw [List.take_succ_eq_append_getElem h, List.map_append, List.getD_eq_getElem?_getD, List.getElem?_eq_getElem h]
  rfl
set_option maxRecDepth 100000 in
set_option maxHeartbeats 8000000 in
theorem lstatic_any (L : List ByteArray) (y : Bool) (v : Value) (w : World) (hl : L.length ≤ 140737488355328) (hx : ∀ j, (L.getD j ⟨#[]⟩).size ≤ 140737488355328) (h : Pt.Strz w v L) :
    Calls Tryz.prog 4 #[v, .bool y] w fun e w' => e = .returned (.bool true) ∧ Below w.heap.size w w' := by
  have k1 := alive_any w
  obtain ⟨a, cap, hv, hcells⟩ : ∃ a cap, v = .slice a L.length cap ∧ ∀ j, j < L.length → ∃ b off, a = some ⟨b, off, none⟩ ∧ b < w.heap.size ∧ w.cell? ⟨b, off + j, none⟩ = some (.string (L.getD j ⟨#[]⟩)) := by
    rcases h.form with ⟨rfl, a, cap, rfl⟩ | ⟨_, b, off, cap, rfl, h3, h4⟩
    · exact ⟨a, cap, rfl, fun j hj => by simp at hj⟩
    · exact ⟨_, cap, rfl, fun j hj => ⟨b, off, rfl, h3, h4 j hj⟩⟩
  subst hv
  have HC := hide' hcells
  have HX := hide' hx
  clear hcells h hx
  by_cases hg : 20 < L.length ∨ L.length = 0
  · have hd : decide ((20 : Int) < (L.length : Int)) = true ∨ decide ((20 : Int) < (L.length : Int)) = false ∧ ((L.length : Int) == 0) = true := by
      rcases hg with h | h
      · exact .inl (decide_eq_true (by omega))
      · exact .inr ⟨decide_eq_false (by omega), by rw [h]; rfl⟩
    clear hg HC HX
    rcases hd with d1 | ⟨d1, d2⟩
    · go_enter Tryz.func4, Tryz.ntmps4
      go_wp2_with (first | (go_at_call 5; refine k1.mono ?_; rintro e w1 ⟨rfl, hb1⟩))
      go_ret
      exact ⟨rfl, hb1⟩
    · go_enter Tryz.func4, Tryz.ntmps4
      go_wp2_with (first | (go_at_call 5; refine k1.mono ?_; rintro e w1 ⟨rfl, hb1⟩))
      go_ret
      exact ⟨rfl, hb1⟩
  · have hLen : L.length ≤ 20 := by omega
    have hPos : 0 < L.length := by omega
    have d1 : decide ((20 : Int) < (L.length : Int)) = false := decide_eq_false (by omega)
    have d2 : ((L.length : Int) == 0) = false := beq_eq_false_iff_ne.2 (by omega)
    obtain ⟨b0, off0, rfl, hbw, _⟩ := HC.out 0 hPos
    go_enter Tryz.func4, Tryz.ntmps4
    go_wp2_with (first | (go_at_call 5; refine k1.mono ?_; rintro e w1 ⟨rfl, hb1⟩))
    clear k1 hg
    go_loopw [7, 6] (fun i l wr => ∃ (k : Nat) (t : ByteArray), k ≤ L.length ∧ i = .int .i64 k ∧ l = .string t ∧ t.size ≤ 104 * k ∧ Hid (tl t = flat ((L.take k).map wdx)) ∧ Hid (GoodL L k) ∧ Below w.heap.size w wr) (fun i _ _ => L.length - (intOf i).toNat)
    case atStart => exact ⟨0, ⟨#[]⟩, Nat.zero_le _, rfl, rfl, by decide, rfl, fun j hj => absurd hj (Nat.not_lt_zero j), hb1⟩
    case round =>
      clear hb1 d1 d2
      obtain ⟨k, t, hk, rfl, rfl, hts, HT, HG, hb1⟩ := hrel
      by_cases hlt : k < L.length
      · obtain ⟨b, off, hbo, hbw2, hcc⟩ := HC.out k hlt
        obtain ⟨rfl, rfl⟩ : b0 = b ∧ off0 = off := by cases hbo; exact ⟨rfl, rfl⟩
        clear hbo
        have cc := (hb1.cell (p := ⟨b0, off0 + k, none⟩) hbw).trans hcc
        have hxs := HX.out k
        have HTM := hide' (take_map L k hlt)
        obtain ⟨x, hxg⟩ : ∃ x, x = L.getD k ⟨#[]⟩ := ⟨_, rfl⟩
        rw [← hxg] at cc hxs HTM
        have HXG := hide' hxg
        clear hcc hxg
        by_cases hs : x.size ≤ 100
        · have d1 : decide ((100 : Int) < (x.size : Int)) = false := decide_eq_false (by omega)
          go_wp2
          go_loopw [8] (fun i wq => ∃ m : Nat, m ≤ x.size ∧ i = .int .i64 m ∧ Hid (∀ j, j < m → 97 ≤ ((tl x).getD j 0).toNat ∧ ((tl x).getD j 0).toNat ≤ 122) ∧ wq = wr) (fun i _ => x.size - (intOf i).toNat)
          case atStart => exact ⟨0, Nat.zero_le _, rfl, fun j hj => absurd hj (Nat.not_lt_zero j), rfl⟩
          case round =>
            obtain ⟨m, hm, rfl, HM, hwq⟩ := hrel
            have cc' := cc
            rw [← hwq] at cc' hb1
            have HWQ := hide' hwq
            clear cc hwq
            by_cases hmx : m < x.size
            · have hgm := getD_at x m hmx
              by_cases hlo : 97 ≤ x[m].toNat ∧ x[m].toNat ≤ 122
              · have e1 : decide ((97 : Int) ≤ (x[m].toNat : Int)) = true := decide_eq_true (by omega)
                have e2 : decide ((x[m].toNat : Int) ≤ 122) = true := decide_eq_true (by omega)
                have HN : Hid (∀ j, j < m + 1 → 97 ≤ ((tl x).getD j 0).toNat ∧ ((tl x).getD j 0).toNat ≤ 122) := fun j hj => by
                  by_cases e : j = m
                  · subst e; rw [hgm]; exact hlo
                  · exact HM.out j (by omega)
                clear hlo hgm HM
                go_wp2
                exact ⟨⟨m + 1, by omega, by go_num, HN, HWQ.out⟩, by simp [intOf]; omega⟩
              · have e : decide ((97 : Int) ≤ (x[m].toNat : Int)) = false ∨ decide ((97 : Int) ≤ (x[m].toNat : Int)) = true ∧ decide ((x[m].toNat : Int) ≤ 122) = false := by
                  by_cases e : 97 ≤ x[m].toNat
                  · exact .inr ⟨decide_eq_true (by omega), decide_eq_false (by omega)⟩
                  · exact .inl (decide_eq_false (by omega))
                clear hlo hgm HM
                rcases e with e1 | ⟨e1, e2⟩
                · go_wp2
                  go_ret
                  exact ⟨rfl, hb1⟩
                · go_wp2
                  go_ret
                  exact ⟨rfl, hb1⟩
            · obtain rfl : m = x.size := by omega
              have hlow : low x := fun c hc => by
                obtain ⟨i, hi, rfl⟩ := List.mem_iff_getElem.1 hc
                have := HM.out i (by rw [← tl_len]; exact hi)
                rw [List.getD_eq_getElem?_getD, List.getElem?_eq_getElem hi] at this
                exact this
              have HN : Hid (GoodL L (k + 1)) := fun j hj => by
                by_cases e : j = k
                · subst e; rw [← HXG.out]; exact ⟨hs, hlow⟩
                · exact HG.out j (by omega)
              obtain ⟨X1, e1⟩ : ∃ X1, t ++ (⟨#[32, 120]⟩ : ByteArray) = X1 := ⟨_, rfl⟩
              obtain ⟨X2, e2⟩ : ∃ X2, X1 ++ x = X2 := ⟨_, rfl⟩
              obtain ⟨X3, e3⟩ : ∃ X3, X2 ++ (⟨#[46, 111]⟩ : ByteArray) = X3 := ⟨_, rfl⟩
              have s2 : (⟨#[32, 120]⟩ : ByteArray).size = 2 := rfl
              have s3 : (⟨#[46, 111]⟩ : ByteArray).size = 2 := rfl
              have q1 : X1.size = t.size + 2 := by rw [← e1, ByteArray.size_append, s2]
              have q2 : X2.size = t.size + 2 + x.size := by rw [← e2, ByteArray.size_append, q1]
              have q3 : X3.size = t.size + 2 + x.size + 2 := by rw [← e3, ByteArray.size_append, q2, s3]
              have z1 : t.size + (⟨#[32, 120]⟩ : ByteArray).size ≤ 1000000 := by omega
              have z2 : X1.size + x.size ≤ 1000000 := by omega
              have z3 : X2.size + (⟨#[46, 111]⟩ : ByteArray).size ≤ 1000000 := by omega
              have HTN : Hid (tl X3 = flat ((L.take (k + 1)).map wdx)) := by
                show _ = _
                rw [← e3, ← e2, ← e1, tl_ap, tl_ap, tl_ap, HT.out, HTM.out, flat_app]
                unfold flat wdx
                simp [tl]
              have hX3 : X3.size ≤ 104 * (k + 1) := by omega
              clear HM hlow q1 q2 q3 s2 s3
              go_wp2
              exact ⟨⟨k + 1, X3, by omega, by go_num, rfl, hX3, HTN, HN, hb1⟩, by simp [intOf]; omega⟩
        · have d1 : decide ((100 : Int) < (x.size : Int)) = true := decide_eq_true (by omega)
          go_wp2
          go_ret
          exact ⟨rfl, hb1⟩
      · obtain rfl : k = L.length := by omega
        have ht : tl t = flat (L.map wdx) := by rw [HT.out, List.take_length]
        have hGood := good_all HG.out
        clear HT
        cases y with
        | true =>
          obtain ⟨T, hTT⟩ : ∃ T, T = t ++ (⟨#[32, 121, 46, 111]⟩ : ByteArray) := ⟨_, rfl⟩
          have hT : tl T = flat (L.map wdx ++ [yW]) := by rw [hTT, tl_ap, ht, flat_app]; rfl
          have hTs : T.size ≤ 5000 := by rw [hTT, ByteArray.size_append, show (⟨#[32, 121, 46, 111]⟩ : ByteArray).size = 4 from rfl]; omega
          have zt : t.size + 100 ≤ 100000 := by omega
          have kM1 := fun w => m1_bad T L hGood.1 hGood.2 hT (by omega) w
          obtain ⟨T2, hT2⟩ : ∃ T2, T ++ (⟨#[32, 37, 46, 111]⟩ : ByteArray) = T2 := ⟨_, rfl⟩
          have z2 : T.size + (⟨#[32, 37, 46, 111]⟩ : ByteArray).size ≤ 1000000 := by rw [show (⟨#[32, 37, 46, 111]⟩ : ByteArray).size = 4 from rfl]; omega
          have hT2s : T2.size ≤ 100000 := by rw [← hT2, ByteArray.size_append, show (⟨#[32, 37, 46, 111]⟩ : ByteArray).size = 4 from rfl]; omega
          have kM2 := fun w => m2_bad T2 (L.map wdx ++ [yW]) (by simp ) (fun x hx => by
            rcases List.mem_append.1 hx with h | h
            · exact ⟨wdx_all L hGood.1 x h, by obtain ⟨s, hs, rfl⟩ := List.mem_map.1 h; exact wdx_37 s (hGood.1 s hs)⟩
            · rw [List.mem_singleton] at h; rw [h]; exact ⟨y_ok, by kernel_rfl⟩) (by rw [← hT2, tl_ap, hT, flat_app (L.map wdx ++ [yW])]; rfl) hT2s w
          have kM3 := m3_ok
          have kn := num_any
          have z1 : t.size + (⟨#[32, 121, 46, 111]⟩ : ByteArray).size ≤ 1000000 := by rw [show (⟨#[32, 121, 46, 111]⟩ : ByteArray).size = 4 from rfl]; omega
          have hTT2 : t ++ (⟨#[32, 121, 46, 111]⟩ : ByteArray) = T := hTT.symm
          clear hTT
          have HTX := hide' hT
          clear hT hTs zt hT2s HX HG ht hGood hLen hPos
          go_upto_region 20 with (go_at_call 14; refine (kM1 _).mono ?_; rintro e w3 ⟨rfl, hb3⟩)
          have hyA := bx11_at w3 (.slice none 0 0) (.slice none 0 0) (.slice none 0 0) (.bool false) (.bool false) (.bool false) (.string ⟨#[]⟩) (.slice none 0 0) (.bool false) (.string ⟨#[]⟩) (.bool false)
          have hB3 := hb1.trans (hb3.mono hb1.size)
          have hB4 := hB3.alloc hB3.size (.cells #[.slice none 0 0, .slice none 0 0, .slice none 0 0, .bool false, .bool false, .bool false, .string ⟨#[]⟩, .slice none 0 0, .bool false, .string ⟨#[]⟩, .bool false] 29)
          generalize hPA : w3.heap.size = PA at hyA ⊢
          generalize hWA : w3.alloc (.cells #[.slice none 0 0, .slice none 0 0, .slice none 0 0, .bool false, .bool false, .bool false, .string ⟨#[]⟩, .slice none 0 0, .bool false, .string ⟨#[]⟩, .bool false] 29) = WA at hyA hB4 ⊢
          have HPA := hide' hPA
          have HWA := hide' hWA
          clear hPA hWA hb3 hB3 kM1
          go_upto_region 21 with (go_at_call 14; refine (kM2 _).mono ?_; rintro e w4 ⟨rfl, hb4⟩)
          have hyA4 := (hyA.below hb4).alloc (.cells #[.slice none 0 0, .slice none 0 0, .slice none 0 0, .bool false, .bool false, .bool false, .string ⟨#[]⟩, .slice none 0 0, .bool false, .string ⟨#[]⟩, .bool false] 29)
          have hB5 := hB4.trans (hb4.mono hB4.size)
          have hB6 := hB5.alloc hB5.size (.cells #[.slice none 0 0, .slice none 0 0, .slice none 0 0, .bool false, .bool false, .bool false, .string ⟨#[]⟩, .slice none 0 0, .bool false, .string ⟨#[]⟩, .bool false] 29)
          generalize hWB : w4.alloc (.cells #[.slice none 0 0, .slice none 0 0, .slice none 0 0, .bool false, .bool false, .bool false, .string ⟨#[]⟩, .slice none 0 0, .bool false, .string ⟨#[]⟩, .bool false] 29) = WB at hyA4 hB6 ⊢
          have HWB := hide' hWB
          clear hWB hb4 hB5 hB4 kM2 hyA
          go_upto_region 22 with (go_at_call 14; refine (kM3 _).mono ?_; rintro e w5 ⟨⟨b3, cap3, g4, cap4, rfl⟩, hb5⟩)
          have hyA5 := (hyA4.below hb5).alloc (.cells #[.slice (some ⟨b3, 0, none⟩) 2 cap3, .slice (some ⟨g4, 0, none⟩) 1 cap4, .slice none 0 0, .bool false, .bool true, .bool true, .string ⟨#[]⟩, .slice none 0 0, .bool false, .string ⟨#[]⟩, .bool false] 29)
          have hyC := bx11_at w5 (.slice (some ⟨b3, 0, none⟩) 2 cap3) (.slice (some ⟨g4, 0, none⟩) 1 cap4) (.slice none 0 0) (.bool false) (.bool true) (.bool true) (.string ⟨#[]⟩) (.slice none 0 0) (.bool false) (.string ⟨#[]⟩) (.bool false)
          have hB7 := hB6.trans (hb5.mono hB6.size)
          have hB8 := hB7.alloc hB7.size (.cells #[.slice (some ⟨b3, 0, none⟩) 2 cap3, .slice (some ⟨g4, 0, none⟩) 1 cap4, .slice none 0 0, .bool false, .bool true, .bool true, .string ⟨#[]⟩, .slice none 0 0, .bool false, .string ⟨#[]⟩, .bool false] 29)
          generalize hPC : w5.heap.size = PC at hyC ⊢
          generalize hWC : w5.alloc (.cells #[.slice (some ⟨b3, 0, none⟩) 2 cap3, .slice (some ⟨g4, 0, none⟩) 1 cap4, .slice none 0 0, .bool false, .bool true, .bool true, .string ⟨#[]⟩, .slice none 0 0, .bool false, .string ⟨#[]⟩, .bool false] 29) = WC at hyA5 hyC hB8 ⊢
          have HPC := hide' hPC
          have HWC := hide' hWC
          have HB8 := hide' hB8
          have ac0 := hyA5.c0
          have ac1 := hyA5.c1
          have ac2 := hyA5.c2
          have ac3 := hyA5.c3
          have ac4 := hyA5.c4
          have ac5 := hyA5.c5
          have ac6 := hyA5.c6
          have ac7 := hyA5.c7
          have ac8 := hyA5.c8
          have ac9 := hyA5.c9
          have ac10 := hyA5.c10
          have cc0 := hyC.c0
          have cc1 := hyC.c1
          have cc2 := hyC.c2
          have cc3 := hyC.c3
          have cc4 := hyC.c4
          have cc5 := hyC.c5
          have cc6 := hyC.c6
          have cc7 := hyC.c7
          have cc8 := hyC.c8
          have cc9 := hyC.c9
          have cc10 := hyC.c10
          clear hPC hWC hb5 hB7 hB6 hB8 kM3 hyA4 hyA5 hyC
          go_wp2_with (go_at_call 15; refine (kn _ _).mono ?_; rintro e w6 ⟨rfl, rfl⟩)
          go_ret
          exact ⟨rfl, HB8.out⟩
        | false =>
          obtain ⟨T, hTT⟩ : ∃ T, T = t := ⟨_, rfl⟩
          have hT : tl T = flat (L.map wdx) := by rw [hTT]; exact ht
          have hTs : T.size ≤ 5000 := by rw [hTT]; omega
          have zt : t.size + 100 ≤ 100000 := by omega
          have kM1 := fun w => m1_ok T L hPos hGood.1 hGood.2 hT (by omega) w
          obtain ⟨T2, hT2⟩ : ∃ T2, T ++ (⟨#[32, 37, 46, 111]⟩ : ByteArray) = T2 := ⟨_, rfl⟩
          have z2 : T.size + (⟨#[32, 37, 46, 111]⟩ : ByteArray).size ≤ 1000000 := by rw [show (⟨#[32, 37, 46, 111]⟩ : ByteArray).size = 4 from rfl]; omega
          have hT2s : T2.size ≤ 100000 := by rw [← hT2, ByteArray.size_append, show (⟨#[32, 37, 46, 111]⟩ : ByteArray).size = 4 from rfl]; omega
          have kM2 := fun w => m2_bad T2 (L.map wdx) (by simp; exact hPos) (fun x hx => ⟨wdx_all L hGood.1 x hx, by obtain ⟨s, hs, rfl⟩ := List.mem_map.1 hx; exact wdx_37 s (hGood.1 s hs)⟩) (by rw [← hT2, tl_ap, hT, flat_app (L.map wdx)]; rfl) hT2s w
          have kM3 := m3_ok
          have kn := num_any
          subst hTT
          have HTX := hide' hT
          clear hT hTs zt hT2s HX HG ht hGood hLen hPos
          go_upto_region 20 with (go_at_call 14; refine (kM1 _).mono ?_; rintro e w3 ⟨⟨b, cap1, g3, a1, c1, a2, c2, rfl⟩, hb3⟩)
          have hyA := bx11_at w3 (.slice (some ⟨b, 0, none⟩) L.length cap1) (.slice (some ⟨g3, 0, none⟩) 2 2) (.slice a1 1 c1) (.bool false) (.bool false) (.bool false) (.string stX) (.slice none 0 0) (.bool false) (.string ⟨#[]⟩) (.bool false)
          have hB3 := hb1.trans (hb3.mono hb1.size)
          have hB4 := hB3.alloc hB3.size (.cells #[.slice (some ⟨b, 0, none⟩) L.length cap1, .slice (some ⟨g3, 0, none⟩) 2 2, .slice a1 1 c1, .bool false, .bool false, .bool false, .string stX, .slice none 0 0, .bool false, .string ⟨#[]⟩, .bool false] 29)
          generalize hPA : w3.heap.size = PA at hyA ⊢
          generalize hWA : w3.alloc (.cells #[.slice (some ⟨b, 0, none⟩) L.length cap1, .slice (some ⟨g3, 0, none⟩) 2 2, .slice a1 1 c1, .bool false, .bool false, .bool false, .string stX, .slice none 0 0, .bool false, .string ⟨#[]⟩, .bool false] 29) = WA at hyA hB4 ⊢
          have HPA := hide' hPA
          have HWA := hide' hWA
          clear hPA hWA hb3 hB3 kM1
          go_upto_region 21 with (go_at_call 14; refine (kM2 _).mono ?_; rintro e w4 ⟨rfl, hb4⟩)
          have hyA4 := (hyA.below hb4).alloc (.cells #[.slice none 0 0, .slice none 0 0, .slice none 0 0, .bool false, .bool false, .bool false, .string ⟨#[]⟩, .slice none 0 0, .bool false, .string ⟨#[]⟩, .bool false] 29)
          have hB5 := hB4.trans (hb4.mono hB4.size)
          have hB6 := hB5.alloc hB5.size (.cells #[.slice none 0 0, .slice none 0 0, .slice none 0 0, .bool false, .bool false, .bool false, .string ⟨#[]⟩, .slice none 0 0, .bool false, .string ⟨#[]⟩, .bool false] 29)
          generalize hWB : w4.alloc (.cells #[.slice none 0 0, .slice none 0 0, .slice none 0 0, .bool false, .bool false, .bool false, .string ⟨#[]⟩, .slice none 0 0, .bool false, .string ⟨#[]⟩, .bool false] 29) = WB at hyA4 hB6 ⊢
          have HWB := hide' hWB
          clear hWB hb4 hB5 hB4 kM2 hyA
          go_upto_region 22 with (go_at_call 14; refine (kM3 _).mono ?_; rintro e w5 ⟨⟨b3, cap3, g4, cap4, rfl⟩, hb5⟩)
          have hyA5 := (hyA4.below hb5).alloc (.cells #[.slice (some ⟨b3, 0, none⟩) 2 cap3, .slice (some ⟨g4, 0, none⟩) 1 cap4, .slice none 0 0, .bool false, .bool true, .bool true, .string ⟨#[]⟩, .slice none 0 0, .bool false, .string ⟨#[]⟩, .bool false] 29)
          have hyC := bx11_at w5 (.slice (some ⟨b3, 0, none⟩) 2 cap3) (.slice (some ⟨g4, 0, none⟩) 1 cap4) (.slice none 0 0) (.bool false) (.bool true) (.bool true) (.string ⟨#[]⟩) (.slice none 0 0) (.bool false) (.string ⟨#[]⟩) (.bool false)
          have hB7 := hB6.trans (hb5.mono hB6.size)
          have hB8 := hB7.alloc hB7.size (.cells #[.slice (some ⟨b3, 0, none⟩) 2 cap3, .slice (some ⟨g4, 0, none⟩) 1 cap4, .slice none 0 0, .bool false, .bool true, .bool true, .string ⟨#[]⟩, .slice none 0 0, .bool false, .string ⟨#[]⟩, .bool false] 29)
          generalize hPC : w5.heap.size = PC at hyC ⊢
          generalize hWC : w5.alloc (.cells #[.slice (some ⟨b3, 0, none⟩) 2 cap3, .slice (some ⟨g4, 0, none⟩) 1 cap4, .slice none 0 0, .bool false, .bool true, .bool true, .string ⟨#[]⟩, .slice none 0 0, .bool false, .string ⟨#[]⟩, .bool false] 29) = WC at hyA5 hyC hB8 ⊢
          have HPC := hide' hPC
          have HWC := hide' hWC
          have HB8 := hide' hB8
          have ac0 := hyA5.c0
          have ac1 := hyA5.c1
          have ac2 := hyA5.c2
          have ac3 := hyA5.c3
          have ac4 := hyA5.c4
          have ac5 := hyA5.c5
          have ac6 := hyA5.c6
          have ac7 := hyA5.c7
          have ac8 := hyA5.c8
          have ac9 := hyA5.c9
          have ac10 := hyA5.c10
          have cc0 := hyC.c0
          have cc1 := hyC.c1
          have cc2 := hyC.c2
          have cc3 := hyC.c3
          have cc4 := hyC.c4
          have cc5 := hyC.c5
          have cc6 := hyC.c6
          have cc7 := hyC.c7
          have cc8 := hyC.c8
          have cc9 := hyC.c9
          have cc10 := hyC.c10
          clear hPC hWC hb5 hB7 hB6 hB8 kM3 hyA4 hyA5 hyC
          go_wp2_with (go_at_call 15; refine (kn _ _).mono ?_; rintro e w6 ⟨rfl, rfl⟩)
          go_ret
          exact ⟨rfl, HB8.out⟩
end Go.Proofs.YthkjinhnnilalaaGreatDoor
