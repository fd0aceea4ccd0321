/- The law UtilTests. -/
import Derived.Test.YtbfchadcpokjoaaGreatDoorAZz
import Derived.Deep.CutRange
import Derived.BigQuiet
namespace Go.Proofs.YtbfchadcpokjoaaGreatDoor
open Go.RowKit Go.Maps

def sgs : List Bs := [[45, 101, 113], [45, 110, 101], [45, 108, 116], [45, 108, 101], [45, 103, 116], [45, 103, 101]]
def wnt (a b : Int) : List Bool := [a == b, a != b, decide (a < b), decide (a ≤ b), decide (b < a), decide (b ≤ a)]
/-- how the n-th sign compares -/
theorem sign_at (a b : Int) (p q : Bs) (hp : p.length ≤ 30) (hq : q.length ≤ 30) (hpa : sgB p = true ∧ sgN p = a) (hqb : sgB q = true ∧ sgN q = b) (n : Nat) (hn : n < 6) : ∃ t wb, sgs[n]? = some t ∧ (wnt a b)[n]? = some wb ∧
    ∀ (cv : Value) (W : World), Calls Tryz.prog 158 #[cv, .string (mk p), .string (mk t), .string (mk q)] W fun r w' => r = .returned (.tuple #[.int .i64 (if wb then 0 else 1), .bool true]) ∧ Below W.heap.size W w' := by
  have key : ∀ (t : Bs) (k : Nat) (wb : Bool), cmOf t = some k → 198 ≤ k → k ≤ 203 → (∀ (xs : Array Value) (W : World), (callFunc k xs).run Tryz.prog W = .ok (.enter k xs) W) → t ≠ [61] → t ≠ [33, 61] → t ≠ [45, 110, 116] → t ≠ [45, 111, 116] → cmP k a b = wb →
      ∀ (cv : Value) (W : World), Calls Tryz.prog 158 #[cv, .string (mk p), .string (mk t), .string (mk q)] W fun r w' => r = .returned (.tuple #[.int .i64 (if wb then 0 else 1), .bool true]) ∧ Below W.heap.size W w' := by
    intro t k wb h1 h2 h3 h4 h5 h6 h7 h8 h9 cv W
    have h := ofTwo_num cv p t q k W h1 h2 h3 h4 h5 h6 h7 h8 (by unfold maxLen; omega) (by unfold maxLen; omega)
    rw [hpa.1, hqb.1, hpa.2, hqb.2, h9] at h
    exact h
  rcases n with _ | _ | _ | _ | _ | _ | n
  · exact ⟨_, _, rfl, rfl, key _ 198 _ rfl (by decide) (by decide) (fun _ _ => by kernel_rfl) (by decide) (by decide) (by decide) (by decide) rfl⟩
  · exact ⟨_, _, rfl, rfl, key _ 199 _ rfl (by decide) (by decide) (fun _ _ => by kernel_rfl) (by decide) (by decide) (by decide) (by decide) rfl⟩
  · exact ⟨_, _, rfl, rfl, key _ 200 _ rfl (by decide) (by decide) (fun _ _ => by kernel_rfl) (by decide) (by decide) (by decide) (by decide) rfl⟩
  · exact ⟨_, _, rfl, rfl, key _ 201 _ rfl (by decide) (by decide) (fun _ _ => by kernel_rfl) (by decide) (by decide) (by decide) (by decide) rfl⟩
  · exact ⟨_, _, rfl, rfl, key _ 202 _ rfl (by decide) (by decide) (fun _ _ => by kernel_rfl) (by decide) (by decide) (by decide) (by decide) rfl⟩
  · exact ⟨_, _, rfl, rfl, key _ 203 _ rfl (by decide) (by decide) (fun _ _ => by kernel_rfl) (by decide) (by decide) (by decide) (by decide) rfl⟩
  · omega
theorem itoa_short (n : Int) (h0 : -1000000000 < n) (h1 : n < 1000000000) : (Lib.itoa n).length ≤ 30 := by
  by_cases hn : 0 ≤ n
  · obtain ⟨u, rfl⟩ := Int.eq_ofNat_of_zero_le hn
    rw [Lib.itoa_nonneg]
    have := (dec_len 8 u).2 (by show u < 1000000000; omega)
    omega
  · obtain ⟨u, hu⟩ : ∃ u : Nat, -n = u := ⟨(-n).toNat, by omega⟩
    have e : Lib.itoa n = 45 :: Lib.decDigits u := by
      have := Lib.itoa_neg u (by omega)
      rwa [show -(u : Int) = n by omega] at this
    have := (dec_len 8 u).2 (by show u < 1000000000; omega)
    rw [e, List.length_cons]
    omega
theorem lrun_nots (su : Int) {st : Int} (hsu : (if st = 0 then (1 : Int) else if st = 1 then 0 else st) = su) (B n : Nat) (E : Addr) (v av : Value) (a t b : Bs) (st' : Int) (w : World) (h : Nodes w v (tns n)) (hG : Glo B w E) (hB : B ≤ w.heap.size) (hv : Txs w av [[91], [33], a, t, b, [93]])
    (hq : ∀ (cv : Value) (W : World), Calls Tryz.prog 158 #[cv, .string (mk a), .string (mk t), .string (mk b)] W fun r w' => r = .returned (.tuple #[.int .i64 st', .bool true]) ∧ Below W.heap.size W w') (hs : st' = st := by rfl) :
    Calls Tryz.prog 9 #[.agg #[v, .int .i64 3, .int .i64 60000], av, .string (mk [])] w fun r w' => ∃ s ta tn tc ck, r = .returned (.tuple #[.string s, .int .i64 su, .bool true, .agg #[.slice ta tn tc, .int .i64 ck, .int .i64 60000]]) ∧ Below w.heap.size w w' := by
  subst hs
  have q := lrun_not B n E v av a t b st' w h hG hB hv hq
  rw [hsu] at q
  exact q
structure LtC (g n : Nat) (t : Bs) (w : World) : Prop where
  c : w.cell? ⟨g, n, none⟩ = some (.string (mk t))
theorem wpAnyX_two {P : Program} {md : Region.Mode} {ops : Array Oper} {Q : Exit → Act → World → Prop} {C : World → Prop} {X : List Nat} {i j : Nat} {fuel : Nat} {listed : Array Bool} {a : Act} {w : World} (hr : Region.ready md ops listed = [i, j]) (h : wpOp P ops Q i (fun a' w' => (X.contains i = false → C w') ∧ wpAnyX P md ops C X Q fuel (listed.setIfInBounds i true) a' w') a w) (h' : wpOp P ops Q j (fun a' w' => (X.contains j = false → C w') ∧ wpAnyX P md ops C X Q fuel (listed.setIfInBounds j true) a' w') a w) : wpAnyX P md ops C X Q (fuel + 1) listed a w :=
  ⟨fun h0 => absurd (hr ▸ h0) (by simp), fun k hk => by
    rw [hr] at hk
    rcases List.mem_cons.1 hk with rfl | hk
    · exact h
    · rw [List.mem_singleton] at hk; subst hk; exact h'⟩
theorem wpAnyX_three {P : Program} {md : Region.Mode} {ops : Array Oper} {Q : Exit → Act → World → Prop} {C : World → Prop} {X : List Nat} {i j k : Nat} {fuel : Nat} {listed : Array Bool} {a : Act} {w : World} (hr : Region.ready md ops listed = [i, j, k]) (h : wpOp P ops Q i (fun a' w' => (X.contains i = false → C w') ∧ wpAnyX P md ops C X Q fuel (listed.setIfInBounds i true) a' w') a w) (h' : wpOp P ops Q j (fun a' w' => (X.contains j = false → C w') ∧ wpAnyX P md ops C X Q fuel (listed.setIfInBounds j true) a' w') a w) (h'' : wpOp P ops Q k (fun a' w' => (X.contains k = false → C w') ∧ wpAnyX P md ops C X Q fuel (listed.setIfInBounds k true) a' w') a w) : wpAnyX P md ops C X Q (fuel + 1) listed a w :=
  ⟨fun h0 => absurd (hr ▸ h0) (by simp), fun l hl => by
    rw [hr] at hl
    rcases List.mem_cons.1 hl with rfl | hl
    · exact h
    · rcases List.mem_cons.1 hl with rfl | hl
      · exact h'
      · rw [List.mem_singleton] at hl; subst hl; exact h''⟩
set_option maxRecDepth 100000 in
set_option maxHeartbeats 40000000 in
theorem utests_any (B : Nat) (E : Addr) (a b : Int) (x y : Bs) (w : World) (hG : Glo B w E) (hB : B ≤ w.heap.size) (ha0 : -9223372036854775808 ≤ a) (ha1 : a ≤ 9223372036854775807) (hb0 : -9223372036854775808 ≤ b) (hb1 : b ≤ 9223372036854775807) :
    Calls Tryz.prog 3 #[.int .i64 a, .int .i64 b, .string (mk x), .string (mk y)] w fun r w' => r = .returned (.bool true) ∧ Below w.heap.size w w' := by
  have qa := alive_any B E w hG hB
  have HA := hide' qa
  have HG := hide' hG
  clear qa hG
  by_cases hsk : a > 99999999 ∨ a < -99999999 ∨ b > 99999999 ∨ b < -99999999 ∨ x.length > 300 ∨ y.length > 300
  · clear ha0 ha1 hb0 hb1 HG
    have z1 : (mk x).size = x.length := mk_size x
    have z2 : (mk y).size = y.length := mk_size y
    go_enter Tryz.func3, Tryz.ntmps3
    go_wp2_with fail
    refine HA.out.mono ?_
    rintro r w1 ⟨rfl, hw1⟩
    clear HA
    have hsk' : ¬ ((((((a ≤ 99999999 ∧ -99999999 ≤ a) ∧ b ≤ 99999999) ∧ -99999999 ≤ b) ∧ (x.length : Int) ≤ 300) ∧ (y.length : Int) ≤ 300)) := by omega
    clear hsk
    go_wp2
    all_goals (go_ret; exact ⟨rfl, hw1⟩)
  · obtain ⟨k1, k2, k3, k4, k5, k6⟩ : ¬ (99999999 < a) ∧ ¬ (a < -99999999) ∧ ¬ (99999999 < b) ∧ ¬ (b < -99999999) ∧ ¬ (300 < (x.length : Int)) ∧ ¬ (300 < (y.length : Int)) := by omega
    have z1 : (mk x).size = x.length := mk_size x
    have z2 : (mk y).size = y.length := mk_size y
    clear hsk
    go_enter Tryz.func3, Tryz.ntmps3
    go_wp2_with fail
    refine HA.out.mono ?_
    rintro r w1 ⟨rfl, hw1⟩
    clear HA
    go_wp2_with fail
    refine (rdecimal_any a ha0 ha1 w1).mono ?_
    rintro r w' ⟨rfl, rfl⟩
    go_wp2_with fail
    refine (rdecimal_any b hb0 hb1 _).mono ?_
    rintro r w' ⟨rfl, rfl⟩
    go_wp2_with fail
    obtain ⟨W0, hW0⟩ : ∃ W0, W0 = (w'.alloc (.cells #[.string ⟨#[45, 101, 113]⟩, .string ⟨#[45, 110, 101]⟩, .string ⟨#[45, 108, 116]⟩, .string ⟨#[45, 108, 101]⟩, .string ⟨#[45, 103, 116]⟩, .string ⟨#[45, 103, 101]⟩] 9)).alloc (.cells #[.bool (a == b), .bool (a != b), .bool (decide (a < b)), .bool (decide (a ≤ b)), .bool (decide (b < a)), .bool (decide (b ≤ a))] 4) := ⟨_, rfl⟩
    rw [← hW0]
    have hs0 : W0.heap.size = w'.heap.size + 1 + 1 := by rw [hW0]; simp
    have hb0 : Below w'.heap.size w' W0 := by rw [hW0]; exact ((Below.refl _ _).alloc (Nat.le_refl _) _).alloc (by simp) _
    have hop : W0.heap[w'.heap.size]? = some (.cells (sgs.map fun x => Value.string (mk x)).toArray 9 (0, 0)) := by
      rw [hW0]; exact (Below.heap_alloc _ _ _ (by simp)).trans (heap_alloc_new w' _)
    have hwn : W0.heap[w'.heap.size + 1]? = some (.cells ((wnt a b).map Value.bool).toArray 4 (0, 0)) := by
      have := heap_alloc_new (w'.alloc (.cells #[.string ⟨#[45, 101, 113]⟩, .string ⟨#[45, 110, 101]⟩, .string ⟨#[45, 108, 116]⟩, .string ⟨#[45, 108, 101]⟩, .string ⟨#[45, 103, 116]⟩, .string ⟨#[45, 103, 101]⟩] 9)) (.cells #[.bool (a == b), .bool (a != b), .bool (decide (a < b)), .bool (decide (a ≤ b)), .bool (decide (b < a)), .bool (decide (b ≤ a))] 4)
      rw [World.size_alloc] at this
      rw [hW0]; exact this
    have hB0 : Below w.heap.size w W0 := hw1.trans (hb0.mono hw1.size)
    have hsg := fun n hn => sign_at a b (Lib.itoa a) (Lib.itoa b) (itoa_short a (by omega) (by omega)) (itoa_short b (by omega) (by omega)) (sg_itoa a (by omega) (by omega)) (sg_itoa b (by omega) (by omega)) n hn
    generalize hpa : Lib.itoa a = p at hsg
    generalize hqb : Lib.itoa b = q at hsg
    rw [show (⟨p.toArray⟩ : ByteArray) = mk p from rfl, show (⟨q.toArray⟩ : ByteArray) = mk q from rfl]
    have HS := hide' hsg
    have HW := hide' (And.intro hop (And.intro hwn hB0))
    clear hsg hop hwn hB0 hb0 hW0 hpa hqb
    go_loopw [14] (fun i wr => ∃ n : Nat, n ≤ 6 ∧ i = .int .i64 n ∧ Below W0.heap.size W0 wr) (fun i _ => 6 - (match i with | .int _ n => n.toNat | _ => 0))
    case atStart => exact ⟨0, by omega, rfl, Below.refl _ _⟩
    case round =>
      obtain ⟨n, hn, rfl, hbr⟩ := hrel
      by_cases hn6 : n < 6
      · have j1 : (n : Int) < 6 := by omega
        obtain ⟨t, wb, ht, hwb, hq⟩ := HS.out n hn6
        have hl : ∀ W, Below W0.heap.size W0 W → LtC w'.heap.size n t W := fun W hbW => ⟨by
          rw [Lib.cell_of_heap ((hbW.block _ (by omega)).trans HW.out.1)]; simp [ht]⟩
        have hl2 : ∀ W, Below W0.heap.size W0 W → W.cell? ⟨w'.heap.size + 1, n, none⟩ = some (.bool wb) := fun W hbW => by
          rw [Lib.cell_of_heap ((hbW.block _ (by omega)).trans HW.out.2.1)]; simp [hwb]
        have HL := hide' hl
        have HL2 := hide' hl2
        clear hl hl2 ht hwb HS
        generalize hst : (if wb = true then (0 : Int) else 1) = st at hq
        generalize hsu : (if st = 0 then (1 : Int) else if st = 1 then 0 else st) = su
        have HST := hide' hst
        have HSU := hide' hsu
        clear hst hsu
        go_upto_region 11 with fail
        go_cut [15, 16, 17, 18] from 85 to 133 (fun _ s _ _ wx => s = .int .i64 st ∧ Below W0.heap.size W0 wx)
        case first =>
          refine wp_region_classX [18] (C := LtC w'.heap.size n t) (by kernel_rfl) ?_
          obtain ⟨v0, hv0⟩ : ∃ v0, v0 = wr.drew := ⟨_, rfl⟩
          rw [← hv0]
          have bv0 : Below W0.heap.size W0 v0 := by rw [hv0]; exact ⟨hbr.os, hbr.tape, hbr.output, hbr.size, hbr.block⟩
          clear hv0
          have Bv0 := hide' bv0
          have Cv0 := hide' (HL.out v0 bv0)
          clear bv0
          (refine wpAnyX_take (i := 1) (v := ?_) Cv0.out rfl (by kernel_rfl) (by kernel_rfl) (by kernel_rfl) (by kernel_rfl) (fun _ _ _ h => h) (Or.inl ⟨by kernel_rfl, ?_⟩) ?_; rotate_left; (intro w hc; have k0 := hc.c; clear hc; go_simp; try with_reducible rfl))
          (refine wpAnyX_take (i := 2) (v := ?_) Cv0.out rfl (by kernel_rfl) (by kernel_rfl) (by kernel_rfl) (by kernel_rfl) (fun _ _ _ h => h) (Or.inl ⟨by kernel_rfl, ?_⟩) ?_; rotate_left; (intro w hc; have k0 := hc.c; clear hc; go_simp; try with_reducible rfl))
          (refine wpAnyX_take (i := 3) (v := ?_) Cv0.out rfl (by kernel_rfl) (by kernel_rfl) (by kernel_rfl) (by kernel_rfl) (fun _ _ _ h => h) (Or.inl ⟨by kernel_rfl, ?_⟩) ?_; rotate_left; (intro w hc; have k0 := hc.c; clear hc; go_simp; try with_reducible rfl))
          go_simp
          (refine wpAnyX_take (i := 4) (v := ?_) Cv0.out rfl (by kernel_rfl) (by kernel_rfl) (by kernel_rfl) (by kernel_rfl) (fun _ _ _ h => h) (Or.inl ⟨by kernel_rfl, ?_⟩) ?_; rotate_left; (intro w hc; have k0 := hc.c; clear hc; go_simp; try with_reducible rfl))
          (refine wpAnyX_take (i := 5) (v := ?_) Cv0.out rfl (by kernel_rfl) (by kernel_rfl) (by kernel_rfl) (by kernel_rfl) (fun _ _ _ h => h) (Or.inl ⟨by kernel_rfl, ?_⟩) ?_; rotate_left; (intro w hc; have k0 := hc.c; clear hc; go_simp; try with_reducible rfl))
          go_simp
          (refine wpAnyX_take (i := 6) (v := ?_) Cv0.out rfl (by kernel_rfl) (by kernel_rfl) (by kernel_rfl) (by kernel_rfl) (fun _ _ _ h => h) (Or.inl ⟨by kernel_rfl, ?_⟩) ?_; rotate_left; (intro w hc; have k0 := hc.c; clear hc; go_simp; try with_reducible rfl))
          go_simp
          refine wpAnyX_three (i := 0) (j := 7) (k := 14) (by kernel_rfl) (wpOp_wanted rfl (by rfl) ?_) (wpOp_wanted rfl (by rfl) ?_) (wpOp_wanted rfl (by rfl) ?_)
          · skip
            go_simp
            refine (tree_any v0).mono ?_
            rintro r v1 ⟨tv, nt, rfl, hnn, hbb⟩
            have Nv1 := hide' hnn
            clear hnn
            have Bv1 := hide' (Bv0.out.trans (hbb.mono Bv0.out.size))
            have Cv1 := hide' (HL.out v1 Bv1.out)
            clear hbb Bv0 Cv0
            refine ⟨Cv1.out, ?_⟩
            refine wpAnyX_two (i := 7) (j := 14) (by kernel_rfl) (wpOp_wanted rfl (by rfl) ?_) (wpOp_wanted rfl (by rfl) ?_)
            · skip
              go_simp
              obtain ⟨v2, hnw⟩ : ∃ W, W = v1.alloc (.cells #[.string ⟨#[116, 101, 115, 116]⟩, .string (mk p), .string (mk t), .string (mk q)] 9) := ⟨_, rfl⟩
              rw [← hnw]
              have hbb : Below v1.heap.size v1 v2 := by rw [hnw]; exact (Below.refl _ _).alloc (Nat.le_refl _) _
              have Tv2 : Hid (Txs v2 (.slice (some ⟨v1.heap.size, 0, none⟩) 4 4) [[116, 101, 115, 116], p, t, q]) := hide' (by rw [hnw]; exact txs_new v1 [[116, 101, 115, 116], p, t, q])
              clear hnw
              have Bv2 := hide' (Bv1.out.trans (hbb.mono Bv1.out.size))
              have Cv2 := hide' (HL.out v2 Bv2.out)
              have Nv2 := hide' (Nv1.out.below hbb)
              clear hbb Bv1 Cv1 Nv1
              refine ⟨Cv2.out, ?_⟩
              refine wpAnyX_two (i := 8) (j := 14) (by kernel_rfl) (wpOp_wanted rfl (by rfl) ?_) (wpOp_wanted rfl (by rfl) ?_)
              · skip
                go_simp
                have hwv : Below w.heap.size w v2 := HW.out.2.2.trans (Bv2.out.mono HW.out.2.2.size)
                refine (lrun_test B nt E tv (.slice (some ⟨v1.heap.size, 0, none⟩) 4 4) p t q st v2 Nv2.out (HG.out.keep (hwv.mono hB)) (Nat.le_trans hB hwv.size) Tv2.out hq).mono ?_
                rintro r v3 ⟨rs, ta, tn, tc, ck, rfl, hbb⟩
                clear hwv
                have Bv3 := hide' (Bv2.out.trans (hbb.mono Bv2.out.size))
                have Cv3 := hide' (HL.out v3 Bv3.out)
                clear hbb Bv2 Cv2 Nv2 Tv2
                refine ⟨Cv3.out, ?_⟩
                (refine wpAnyX_take (i := 9) (v := ?_) Cv3.out rfl (by kernel_rfl) (by kernel_rfl) (by kernel_rfl) (by kernel_rfl) (fun _ _ _ h => h) (Or.inl ⟨by kernel_rfl, ?_⟩) ?_; rotate_left; (intro w hc; have k0 := hc.c; clear hc; go_simp; try with_reducible rfl))
                (refine wpAnyX_take (i := 10) (v := ?_) Cv3.out rfl (by kernel_rfl) (by kernel_rfl) (by kernel_rfl) (by kernel_rfl) (fun _ _ _ h => h) (Or.inl ⟨by kernel_rfl, ?_⟩) ?_; rotate_left; (intro w hc; have k0 := hc.c; clear hc; go_simp; try with_reducible rfl))
                (refine wpAnyX_take (i := 11) (v := ?_) Cv3.out rfl (by kernel_rfl) (by kernel_rfl) (by kernel_rfl) (by kernel_rfl) (fun _ _ _ h => h) (Or.inl ⟨by kernel_rfl, ?_⟩) ?_; rotate_left; (intro w hc; have k0 := hc.c; clear hc; go_simp; try with_reducible rfl))
                (refine wpAnyX_take (i := 12) (v := ?_) Cv3.out rfl (by kernel_rfl) (by kernel_rfl) (by kernel_rfl) (by kernel_rfl) (fun _ _ _ h => h) (Or.inl ⟨by kernel_rfl, ?_⟩) ?_; rotate_left; (intro w hc; have k0 := hc.c; clear hc; go_simp; try with_reducible rfl))
                (refine wpAnyX_take (i := 13) (v := ?_) Cv3.out rfl (by kernel_rfl) (by kernel_rfl) (by kernel_rfl) (by kernel_rfl) (fun _ _ _ h => h) (Or.inl ⟨by kernel_rfl, ?_⟩) ?_; rotate_left; (intro w hc; have k0 := hc.c; clear hc; go_simp; try with_reducible rfl))
                go_simp
                refine wpAnyX_one (i := 14) (by kernel_rfl) (wpOp_wanted rfl (by rfl) ?_)
                go_simp
                obtain ⟨v4, hnw⟩ : ∃ W, W = v3.alloc (.cells #[.slice none 0 0, .int .i64 0, .int .i64 0] 28) := ⟨_, rfl⟩
                rw [← hnw]
                have hbb : Below v3.heap.size v3 v4 := by rw [hnw]; exact (Below.refl _ _).alloc (Nat.le_refl _) _
                have Zv4 : Hid (v4.heap[v3.heap.size]? = some (.cells #[.slice none 0 0, .int .i64 0, .int .i64 0] 28 (0, 0))) := hide' (by rw [hnw]; exact heap_alloc_new v3 _)
                have LA : Hid (W0.heap.size ≤ v3.heap.size) := hide' Bv3.out.size
                clear hnw
                have Bv4 := hide' (Bv3.out.trans (hbb.mono Bv3.out.size))
                have Cv4 := hide' (HL.out v4 Bv4.out)
                clear hbb Bv3 Cv3
                refine ⟨Cv4.out, ?_⟩
                refine wpAnyX_one (i := 15) (by kernel_rfl) (wpOp_wanted rfl (by rfl) ?_)
                go_simp
                refine ⟨Cv4.out, ?_⟩
                refine wpAnyX_one (i := 16) (by kernel_rfl) (wpOp_wanted rfl (by rfl) ?_)
                go_simp
                refine ⟨Cv4.out, ?_⟩
                refine wpAnyX_one (i := 17) (by kernel_rfl) (wpOp_wanted rfl (by rfl) ?_)
                go_simp
                refine ⟨Cv4.out, ?_⟩
                have y0 : v4.cell? ⟨v3.heap.size, 0, none⟩ = some (.slice none 0 0) := by rw [Lib.cell_of_heap Zv4.out]; rfl
                have y1 : v4.cell? ⟨v3.heap.size, 1, none⟩ = some (.int .i64 0) := by rw [Lib.cell_of_heap Zv4.out]; rfl
                have y2 : v4.cell? ⟨v3.heap.size, 2, none⟩ = some (.int .i64 0) := by rw [Lib.cell_of_heap Zv4.out]; rfl
                have f0 := Lib.frozen_of_heap Zv4.out 0
                have f1 := Lib.frozen_of_heap Zv4.out 1
                have f2 := Lib.frozen_of_heap Zv4.out 2
                refine wpAnyX_one (i := 18) (by kernel_rfl) (wpOp_wanted rfl (by rfl) ?_)
                go_simp
                refine wpAnyX_done (by kernel_rfl) ?_ _
                have hfin : Below W0.heap.size W0 (((v4.setCell ⟨v3.heap.size, 0, none⟩ (.slice ta tn tc)).setCell ⟨v3.heap.size, 1, none⟩ (.int .i64 ck)).setCell ⟨v3.heap.size, 2, none⟩ (.int .i64 60000)) := ((Bv4.out.setCell (p := ⟨v3.heap.size, 0, none⟩) LA.out _).setCell (p := ⟨v3.heap.size, 1, none⟩) LA.out _).setCell (p := ⟨v3.heap.size, 2, none⟩) LA.out _
                clear y0 y1 y2 f0 f1 f2
                go_wp2_with fail
                go_meet
                exact ⟨rfl, hfin⟩
              · skip
                go_simp
                obtain ⟨v5, hnw⟩ : ∃ W, W = v2.alloc (.cells #[.slice none 0 0, .int .i64 0, .int .i64 0] 28) := ⟨_, rfl⟩
                rw [← hnw]
                have hbb : Below v2.heap.size v2 v5 := by rw [hnw]; exact (Below.refl _ _).alloc (Nat.le_refl _) _
                have Zv5 : Hid (v5.heap[v2.heap.size]? = some (.cells #[.slice none 0 0, .int .i64 0, .int .i64 0] 28 (0, 0))) := hide' (by rw [hnw]; exact heap_alloc_new v2 _)
                have LA : Hid (W0.heap.size ≤ v2.heap.size) := hide' Bv2.out.size
                clear hnw
                have Bv5 := hide' (Bv2.out.trans (hbb.mono Bv2.out.size))
                have Cv5 := hide' (HL.out v5 Bv5.out)
                have Nv5 := hide' (Nv2.out.below hbb)
                have Tv5 := hide' (Tv2.out.below hbb (Nat.le_refl _))
                clear hbb Bv2 Cv2 Nv2 Tv2
                refine ⟨Cv5.out, ?_⟩
                refine wpAnyX_one (i := 8) (by kernel_rfl) (wpOp_wanted rfl (by rfl) ?_)
                go_simp
                have hwv : Below w.heap.size w v5 := HW.out.2.2.trans (Bv5.out.mono HW.out.2.2.size)
                refine (lrun_test B nt E tv (.slice (some ⟨v1.heap.size, 0, none⟩) 4 4) p t q st v5 Nv5.out (HG.out.keep (hwv.mono hB)) (Nat.le_trans hB hwv.size) Tv5.out hq).mono ?_
                rintro r v6 ⟨rs, ta, tn, tc, ck, rfl, hbb⟩
                clear hwv
                have Bv6 := hide' (Bv5.out.trans (hbb.mono Bv5.out.size))
                have Cv6 := hide' (HL.out v6 Bv6.out)
                have Zv6 := hide' ((hbb.block _ (lt_of_block Zv5.out)).trans Zv5.out)
                clear hbb Bv5 Cv5 Nv5 Tv5 Zv5
                refine ⟨Cv6.out, ?_⟩
                (refine wpAnyX_take (i := 9) (v := ?_) Cv6.out rfl (by kernel_rfl) (by kernel_rfl) (by kernel_rfl) (by kernel_rfl) (fun _ _ _ h => h) (Or.inl ⟨by kernel_rfl, ?_⟩) ?_; rotate_left; (intro w hc; have k0 := hc.c; clear hc; go_simp; try with_reducible rfl))
                (refine wpAnyX_take (i := 10) (v := ?_) Cv6.out rfl (by kernel_rfl) (by kernel_rfl) (by kernel_rfl) (by kernel_rfl) (fun _ _ _ h => h) (Or.inl ⟨by kernel_rfl, ?_⟩) ?_; rotate_left; (intro w hc; have k0 := hc.c; clear hc; go_simp; try with_reducible rfl))
                (refine wpAnyX_take (i := 11) (v := ?_) Cv6.out rfl (by kernel_rfl) (by kernel_rfl) (by kernel_rfl) (by kernel_rfl) (fun _ _ _ h => h) (Or.inl ⟨by kernel_rfl, ?_⟩) ?_; rotate_left; (intro w hc; have k0 := hc.c; clear hc; go_simp; try with_reducible rfl))
                (refine wpAnyX_take (i := 12) (v := ?_) Cv6.out rfl (by kernel_rfl) (by kernel_rfl) (by kernel_rfl) (by kernel_rfl) (fun _ _ _ h => h) (Or.inl ⟨by kernel_rfl, ?_⟩) ?_; rotate_left; (intro w hc; have k0 := hc.c; clear hc; go_simp; try with_reducible rfl))
                (refine wpAnyX_take (i := 13) (v := ?_) Cv6.out rfl (by kernel_rfl) (by kernel_rfl) (by kernel_rfl) (by kernel_rfl) (fun _ _ _ h => h) (Or.inl ⟨by kernel_rfl, ?_⟩) ?_; rotate_left; (intro w hc; have k0 := hc.c; clear hc; go_simp; try with_reducible rfl))
                go_simp
                refine wpAnyX_one (i := 15) (by kernel_rfl) (wpOp_wanted rfl (by rfl) ?_)
                go_simp
                refine ⟨Cv6.out, ?_⟩
                refine wpAnyX_one (i := 16) (by kernel_rfl) (wpOp_wanted rfl (by rfl) ?_)
                go_simp
                refine ⟨Cv6.out, ?_⟩
                refine wpAnyX_one (i := 17) (by kernel_rfl) (wpOp_wanted rfl (by rfl) ?_)
                go_simp
                refine ⟨Cv6.out, ?_⟩
                have y0 : v6.cell? ⟨v2.heap.size, 0, none⟩ = some (.slice none 0 0) := by rw [Lib.cell_of_heap Zv6.out]; rfl
                have y1 : v6.cell? ⟨v2.heap.size, 1, none⟩ = some (.int .i64 0) := by rw [Lib.cell_of_heap Zv6.out]; rfl
                have y2 : v6.cell? ⟨v2.heap.size, 2, none⟩ = some (.int .i64 0) := by rw [Lib.cell_of_heap Zv6.out]; rfl
                have f0 := Lib.frozen_of_heap Zv6.out 0
                have f1 := Lib.frozen_of_heap Zv6.out 1
                have f2 := Lib.frozen_of_heap Zv6.out 2
                refine wpAnyX_one (i := 18) (by kernel_rfl) (wpOp_wanted rfl (by rfl) ?_)
                go_simp
                refine wpAnyX_done (by kernel_rfl) ?_ _
                have hfin : Below W0.heap.size W0 (((v6.setCell ⟨v2.heap.size, 0, none⟩ (.slice ta tn tc)).setCell ⟨v2.heap.size, 1, none⟩ (.int .i64 ck)).setCell ⟨v2.heap.size, 2, none⟩ (.int .i64 60000)) := ((Bv6.out.setCell (p := ⟨v2.heap.size, 0, none⟩) LA.out _).setCell (p := ⟨v2.heap.size, 1, none⟩) LA.out _).setCell (p := ⟨v2.heap.size, 2, none⟩) LA.out _
                clear y0 y1 y2 f0 f1 f2
                go_wp2_with fail
                go_meet
                exact ⟨rfl, hfin⟩
            · skip
              go_simp
              obtain ⟨v7, hnw⟩ : ∃ W, W = v1.alloc (.cells #[.slice none 0 0, .int .i64 0, .int .i64 0] 28) := ⟨_, rfl⟩
              rw [← hnw]
              have hbb : Below v1.heap.size v1 v7 := by rw [hnw]; exact (Below.refl _ _).alloc (Nat.le_refl _) _
              have Zv7 : Hid (v7.heap[v1.heap.size]? = some (.cells #[.slice none 0 0, .int .i64 0, .int .i64 0] 28 (0, 0))) := hide' (by rw [hnw]; exact heap_alloc_new v1 _)
              have LA : Hid (W0.heap.size ≤ v1.heap.size) := hide' Bv1.out.size
              clear hnw
              have Bv7 := hide' (Bv1.out.trans (hbb.mono Bv1.out.size))
              have Cv7 := hide' (HL.out v7 Bv7.out)
              have Nv7 := hide' (Nv1.out.below hbb)
              clear hbb Bv1 Cv1 Nv1
              refine ⟨Cv7.out, ?_⟩
              refine wpAnyX_one (i := 7) (by kernel_rfl) (wpOp_wanted rfl (by rfl) ?_)
              go_simp
              obtain ⟨v8, hnw⟩ : ∃ W, W = v7.alloc (.cells #[.string ⟨#[116, 101, 115, 116]⟩, .string (mk p), .string (mk t), .string (mk q)] 9) := ⟨_, rfl⟩
              rw [← hnw]
              have hbb : Below v7.heap.size v7 v8 := by rw [hnw]; exact (Below.refl _ _).alloc (Nat.le_refl _) _
              have Tv8 : Hid (Txs v8 (.slice (some ⟨v7.heap.size, 0, none⟩) 4 4) [[116, 101, 115, 116], p, t, q]) := hide' (by rw [hnw]; exact txs_new v7 [[116, 101, 115, 116], p, t, q])
              clear hnw
              have Bv8 := hide' (Bv7.out.trans (hbb.mono Bv7.out.size))
              have Cv8 := hide' (HL.out v8 Bv8.out)
              have Nv8 := hide' (Nv7.out.below hbb)
              have Zv8 := hide' ((hbb.block _ (lt_of_block Zv7.out)).trans Zv7.out)
              clear hbb Bv7 Cv7 Nv7 Zv7
              refine ⟨Cv8.out, ?_⟩
              refine wpAnyX_one (i := 8) (by kernel_rfl) (wpOp_wanted rfl (by rfl) ?_)
              go_simp
              have hwv : Below w.heap.size w v8 := HW.out.2.2.trans (Bv8.out.mono HW.out.2.2.size)
              refine (lrun_test B nt E tv (.slice (some ⟨v7.heap.size, 0, none⟩) 4 4) p t q st v8 Nv8.out (HG.out.keep (hwv.mono hB)) (Nat.le_trans hB hwv.size) Tv8.out hq).mono ?_
              rintro r v9 ⟨rs, ta, tn, tc, ck, rfl, hbb⟩
              clear hwv
              have Bv9 := hide' (Bv8.out.trans (hbb.mono Bv8.out.size))
              have Cv9 := hide' (HL.out v9 Bv9.out)
              have Zv9 := hide' ((hbb.block _ (lt_of_block Zv8.out)).trans Zv8.out)
              clear hbb Bv8 Cv8 Nv8 Tv8 Zv8
              refine ⟨Cv9.out, ?_⟩
              (refine wpAnyX_take (i := 9) (v := ?_) Cv9.out rfl (by kernel_rfl) (by kernel_rfl) (by kernel_rfl) (by kernel_rfl) (fun _ _ _ h => h) (Or.inl ⟨by kernel_rfl, ?_⟩) ?_; rotate_left; (intro w hc; have k0 := hc.c; clear hc; go_simp; try with_reducible rfl))
              (refine wpAnyX_take (i := 10) (v := ?_) Cv9.out rfl (by kernel_rfl) (by kernel_rfl) (by kernel_rfl) (by kernel_rfl) (fun _ _ _ h => h) (Or.inl ⟨by kernel_rfl, ?_⟩) ?_; rotate_left; (intro w hc; have k0 := hc.c; clear hc; go_simp; try with_reducible rfl))
              (refine wpAnyX_take (i := 11) (v := ?_) Cv9.out rfl (by kernel_rfl) (by kernel_rfl) (by kernel_rfl) (by kernel_rfl) (fun _ _ _ h => h) (Or.inl ⟨by kernel_rfl, ?_⟩) ?_; rotate_left; (intro w hc; have k0 := hc.c; clear hc; go_simp; try with_reducible rfl))
              (refine wpAnyX_take (i := 12) (v := ?_) Cv9.out rfl (by kernel_rfl) (by kernel_rfl) (by kernel_rfl) (by kernel_rfl) (fun _ _ _ h => h) (Or.inl ⟨by kernel_rfl, ?_⟩) ?_; rotate_left; (intro w hc; have k0 := hc.c; clear hc; go_simp; try with_reducible rfl))
              (refine wpAnyX_take (i := 13) (v := ?_) Cv9.out rfl (by kernel_rfl) (by kernel_rfl) (by kernel_rfl) (by kernel_rfl) (fun _ _ _ h => h) (Or.inl ⟨by kernel_rfl, ?_⟩) ?_; rotate_left; (intro w hc; have k0 := hc.c; clear hc; go_simp; try with_reducible rfl))
              go_simp
              refine wpAnyX_one (i := 15) (by kernel_rfl) (wpOp_wanted rfl (by rfl) ?_)
              go_simp
              refine ⟨Cv9.out, ?_⟩
              refine wpAnyX_one (i := 16) (by kernel_rfl) (wpOp_wanted rfl (by rfl) ?_)
              go_simp
              refine ⟨Cv9.out, ?_⟩
              refine wpAnyX_one (i := 17) (by kernel_rfl) (wpOp_wanted rfl (by rfl) ?_)
              go_simp
              refine ⟨Cv9.out, ?_⟩
              have y0 : v9.cell? ⟨v1.heap.size, 0, none⟩ = some (.slice none 0 0) := by rw [Lib.cell_of_heap Zv9.out]; rfl
              have y1 : v9.cell? ⟨v1.heap.size, 1, none⟩ = some (.int .i64 0) := by rw [Lib.cell_of_heap Zv9.out]; rfl
              have y2 : v9.cell? ⟨v1.heap.size, 2, none⟩ = some (.int .i64 0) := by rw [Lib.cell_of_heap Zv9.out]; rfl
              have f0 := Lib.frozen_of_heap Zv9.out 0
              have f1 := Lib.frozen_of_heap Zv9.out 1
              have f2 := Lib.frozen_of_heap Zv9.out 2
              refine wpAnyX_one (i := 18) (by kernel_rfl) (wpOp_wanted rfl (by rfl) ?_)
              go_simp
              refine wpAnyX_done (by kernel_rfl) ?_ _
              have hfin : Below W0.heap.size W0 (((v9.setCell ⟨v1.heap.size, 0, none⟩ (.slice ta tn tc)).setCell ⟨v1.heap.size, 1, none⟩ (.int .i64 ck)).setCell ⟨v1.heap.size, 2, none⟩ (.int .i64 60000)) := ((Bv9.out.setCell (p := ⟨v1.heap.size, 0, none⟩) LA.out _).setCell (p := ⟨v1.heap.size, 1, none⟩) LA.out _).setCell (p := ⟨v1.heap.size, 2, none⟩) LA.out _
              clear y0 y1 y2 f0 f1 f2
              go_wp2_with fail
              go_meet
              exact ⟨rfl, hfin⟩
          · skip
            go_simp
            obtain ⟨v10, hnw⟩ : ∃ W, W = v0.alloc (.cells #[.string ⟨#[116, 101, 115, 116]⟩, .string (mk p), .string (mk t), .string (mk q)] 9) := ⟨_, rfl⟩
            rw [← hnw]
            have hbb : Below v0.heap.size v0 v10 := by rw [hnw]; exact (Below.refl _ _).alloc (Nat.le_refl _) _
            have Tv10 : Hid (Txs v10 (.slice (some ⟨v0.heap.size, 0, none⟩) 4 4) [[116, 101, 115, 116], p, t, q]) := hide' (by rw [hnw]; exact txs_new v0 [[116, 101, 115, 116], p, t, q])
            clear hnw
            have Bv10 := hide' (Bv0.out.trans (hbb.mono Bv0.out.size))
            have Cv10 := hide' (HL.out v10 Bv10.out)
            clear hbb Bv0 Cv0
            refine ⟨Cv10.out, ?_⟩
            refine wpAnyX_two (i := 0) (j := 14) (by kernel_rfl) (wpOp_wanted rfl (by rfl) ?_) (wpOp_wanted rfl (by rfl) ?_)
            · skip
              go_simp
              refine (tree_any v10).mono ?_
              rintro r v11 ⟨tv, nt, rfl, hnn, hbb⟩
              have Nv11 := hide' hnn
              clear hnn
              have Bv11 := hide' (Bv10.out.trans (hbb.mono Bv10.out.size))
              have Cv11 := hide' (HL.out v11 Bv11.out)
              have Tv11 := hide' (Tv10.out.below hbb (Nat.le_refl _))
              clear hbb Bv10 Cv10 Tv10
              refine ⟨Cv11.out, ?_⟩
              refine wpAnyX_two (i := 8) (j := 14) (by kernel_rfl) (wpOp_wanted rfl (by rfl) ?_) (wpOp_wanted rfl (by rfl) ?_)
              · skip
                go_simp
                have hwv : Below w.heap.size w v11 := HW.out.2.2.trans (Bv11.out.mono HW.out.2.2.size)
                refine (lrun_test B nt E tv (.slice (some ⟨v0.heap.size, 0, none⟩) 4 4) p t q st v11 Nv11.out (HG.out.keep (hwv.mono hB)) (Nat.le_trans hB hwv.size) Tv11.out hq).mono ?_
                rintro r v12 ⟨rs, ta, tn, tc, ck, rfl, hbb⟩
                clear hwv
                have Bv12 := hide' (Bv11.out.trans (hbb.mono Bv11.out.size))
                have Cv12 := hide' (HL.out v12 Bv12.out)
                clear hbb Bv11 Cv11 Nv11 Tv11
                refine ⟨Cv12.out, ?_⟩
                (refine wpAnyX_take (i := 9) (v := ?_) Cv12.out rfl (by kernel_rfl) (by kernel_rfl) (by kernel_rfl) (by kernel_rfl) (fun _ _ _ h => h) (Or.inl ⟨by kernel_rfl, ?_⟩) ?_; rotate_left; (intro w hc; have k0 := hc.c; clear hc; go_simp; try with_reducible rfl))
                (refine wpAnyX_take (i := 10) (v := ?_) Cv12.out rfl (by kernel_rfl) (by kernel_rfl) (by kernel_rfl) (by kernel_rfl) (fun _ _ _ h => h) (Or.inl ⟨by kernel_rfl, ?_⟩) ?_; rotate_left; (intro w hc; have k0 := hc.c; clear hc; go_simp; try with_reducible rfl))
                (refine wpAnyX_take (i := 11) (v := ?_) Cv12.out rfl (by kernel_rfl) (by kernel_rfl) (by kernel_rfl) (by kernel_rfl) (fun _ _ _ h => h) (Or.inl ⟨by kernel_rfl, ?_⟩) ?_; rotate_left; (intro w hc; have k0 := hc.c; clear hc; go_simp; try with_reducible rfl))
                (refine wpAnyX_take (i := 12) (v := ?_) Cv12.out rfl (by kernel_rfl) (by kernel_rfl) (by kernel_rfl) (by kernel_rfl) (fun _ _ _ h => h) (Or.inl ⟨by kernel_rfl, ?_⟩) ?_; rotate_left; (intro w hc; have k0 := hc.c; clear hc; go_simp; try with_reducible rfl))
                (refine wpAnyX_take (i := 13) (v := ?_) Cv12.out rfl (by kernel_rfl) (by kernel_rfl) (by kernel_rfl) (by kernel_rfl) (fun _ _ _ h => h) (Or.inl ⟨by kernel_rfl, ?_⟩) ?_; rotate_left; (intro w hc; have k0 := hc.c; clear hc; go_simp; try with_reducible rfl))
                go_simp
                refine wpAnyX_one (i := 14) (by kernel_rfl) (wpOp_wanted rfl (by rfl) ?_)
                go_simp
                obtain ⟨v13, hnw⟩ : ∃ W, W = v12.alloc (.cells #[.slice none 0 0, .int .i64 0, .int .i64 0] 28) := ⟨_, rfl⟩
                rw [← hnw]
                have hbb : Below v12.heap.size v12 v13 := by rw [hnw]; exact (Below.refl _ _).alloc (Nat.le_refl _) _
                have Zv13 : Hid (v13.heap[v12.heap.size]? = some (.cells #[.slice none 0 0, .int .i64 0, .int .i64 0] 28 (0, 0))) := hide' (by rw [hnw]; exact heap_alloc_new v12 _)
                have LA : Hid (W0.heap.size ≤ v12.heap.size) := hide' Bv12.out.size
                clear hnw
                have Bv13 := hide' (Bv12.out.trans (hbb.mono Bv12.out.size))
                have Cv13 := hide' (HL.out v13 Bv13.out)
                clear hbb Bv12 Cv12
                refine ⟨Cv13.out, ?_⟩
                refine wpAnyX_one (i := 15) (by kernel_rfl) (wpOp_wanted rfl (by rfl) ?_)
                go_simp
                refine ⟨Cv13.out, ?_⟩
                refine wpAnyX_one (i := 16) (by kernel_rfl) (wpOp_wanted rfl (by rfl) ?_)
                go_simp
                refine ⟨Cv13.out, ?_⟩
                refine wpAnyX_one (i := 17) (by kernel_rfl) (wpOp_wanted rfl (by rfl) ?_)
                go_simp
                refine ⟨Cv13.out, ?_⟩
                have y0 : v13.cell? ⟨v12.heap.size, 0, none⟩ = some (.slice none 0 0) := by rw [Lib.cell_of_heap Zv13.out]; rfl
                have y1 : v13.cell? ⟨v12.heap.size, 1, none⟩ = some (.int .i64 0) := by rw [Lib.cell_of_heap Zv13.out]; rfl
                have y2 : v13.cell? ⟨v12.heap.size, 2, none⟩ = some (.int .i64 0) := by rw [Lib.cell_of_heap Zv13.out]; rfl
                have f0 := Lib.frozen_of_heap Zv13.out 0
                have f1 := Lib.frozen_of_heap Zv13.out 1
                have f2 := Lib.frozen_of_heap Zv13.out 2
                refine wpAnyX_one (i := 18) (by kernel_rfl) (wpOp_wanted rfl (by rfl) ?_)
                go_simp
                refine wpAnyX_done (by kernel_rfl) ?_ _
                have hfin : Below W0.heap.size W0 (((v13.setCell ⟨v12.heap.size, 0, none⟩ (.slice ta tn tc)).setCell ⟨v12.heap.size, 1, none⟩ (.int .i64 ck)).setCell ⟨v12.heap.size, 2, none⟩ (.int .i64 60000)) := ((Bv13.out.setCell (p := ⟨v12.heap.size, 0, none⟩) LA.out _).setCell (p := ⟨v12.heap.size, 1, none⟩) LA.out _).setCell (p := ⟨v12.heap.size, 2, none⟩) LA.out _
                clear y0 y1 y2 f0 f1 f2
                go_wp2_with fail
                go_meet
                exact ⟨rfl, hfin⟩
              · skip
                go_simp
                obtain ⟨v14, hnw⟩ : ∃ W, W = v11.alloc (.cells #[.slice none 0 0, .int .i64 0, .int .i64 0] 28) := ⟨_, rfl⟩
                rw [← hnw]
                have hbb : Below v11.heap.size v11 v14 := by rw [hnw]; exact (Below.refl _ _).alloc (Nat.le_refl _) _
                have Zv14 : Hid (v14.heap[v11.heap.size]? = some (.cells #[.slice none 0 0, .int .i64 0, .int .i64 0] 28 (0, 0))) := hide' (by rw [hnw]; exact heap_alloc_new v11 _)
                have LA : Hid (W0.heap.size ≤ v11.heap.size) := hide' Bv11.out.size
                clear hnw
                have Bv14 := hide' (Bv11.out.trans (hbb.mono Bv11.out.size))
                have Cv14 := hide' (HL.out v14 Bv14.out)
                have Nv14 := hide' (Nv11.out.below hbb)
                have Tv14 := hide' (Tv11.out.below hbb (Nat.le_refl _))
                clear hbb Bv11 Cv11 Nv11 Tv11
                refine ⟨Cv14.out, ?_⟩
                refine wpAnyX_one (i := 8) (by kernel_rfl) (wpOp_wanted rfl (by rfl) ?_)
                go_simp
                have hwv : Below w.heap.size w v14 := HW.out.2.2.trans (Bv14.out.mono HW.out.2.2.size)
                refine (lrun_test B nt E tv (.slice (some ⟨v0.heap.size, 0, none⟩) 4 4) p t q st v14 Nv14.out (HG.out.keep (hwv.mono hB)) (Nat.le_trans hB hwv.size) Tv14.out hq).mono ?_
                rintro r v15 ⟨rs, ta, tn, tc, ck, rfl, hbb⟩
                clear hwv
                have Bv15 := hide' (Bv14.out.trans (hbb.mono Bv14.out.size))
                have Cv15 := hide' (HL.out v15 Bv15.out)
                have Zv15 := hide' ((hbb.block _ (lt_of_block Zv14.out)).trans Zv14.out)
                clear hbb Bv14 Cv14 Nv14 Tv14 Zv14
                refine ⟨Cv15.out, ?_⟩
                (refine wpAnyX_take (i := 9) (v := ?_) Cv15.out rfl (by kernel_rfl) (by kernel_rfl) (by kernel_rfl) (by kernel_rfl) (fun _ _ _ h => h) (Or.inl ⟨by kernel_rfl, ?_⟩) ?_; rotate_left; (intro w hc; have k0 := hc.c; clear hc; go_simp; try with_reducible rfl))
                (refine wpAnyX_take (i := 10) (v := ?_) Cv15.out rfl (by kernel_rfl) (by kernel_rfl) (by kernel_rfl) (by kernel_rfl) (fun _ _ _ h => h) (Or.inl ⟨by kernel_rfl, ?_⟩) ?_; rotate_left; (intro w hc; have k0 := hc.c; clear hc; go_simp; try with_reducible rfl))
                (refine wpAnyX_take (i := 11) (v := ?_) Cv15.out rfl (by kernel_rfl) (by kernel_rfl) (by kernel_rfl) (by kernel_rfl) (fun _ _ _ h => h) (Or.inl ⟨by kernel_rfl, ?_⟩) ?_; rotate_left; (intro w hc; have k0 := hc.c; clear hc; go_simp; try with_reducible rfl))
                (refine wpAnyX_take (i := 12) (v := ?_) Cv15.out rfl (by kernel_rfl) (by kernel_rfl) (by kernel_rfl) (by kernel_rfl) (fun _ _ _ h => h) (Or.inl ⟨by kernel_rfl, ?_⟩) ?_; rotate_left; (intro w hc; have k0 := hc.c; clear hc; go_simp; try with_reducible rfl))
                (refine wpAnyX_take (i := 13) (v := ?_) Cv15.out rfl (by kernel_rfl) (by kernel_rfl) (by kernel_rfl) (by kernel_rfl) (fun _ _ _ h => h) (Or.inl ⟨by kernel_rfl, ?_⟩) ?_; rotate_left; (intro w hc; have k0 := hc.c; clear hc; go_simp; try with_reducible rfl))
                go_simp
                refine wpAnyX_one (i := 15) (by kernel_rfl) (wpOp_wanted rfl (by rfl) ?_)
                go_simp
                refine ⟨Cv15.out, ?_⟩
                refine wpAnyX_one (i := 16) (by kernel_rfl) (wpOp_wanted rfl (by rfl) ?_)
                go_simp
                refine ⟨Cv15.out, ?_⟩
                refine wpAnyX_one (i := 17) (by kernel_rfl) (wpOp_wanted rfl (by rfl) ?_)
                go_simp
                refine ⟨Cv15.out, ?_⟩
                have y0 : v15.cell? ⟨v11.heap.size, 0, none⟩ = some (.slice none 0 0) := by rw [Lib.cell_of_heap Zv15.out]; rfl
                have y1 : v15.cell? ⟨v11.heap.size, 1, none⟩ = some (.int .i64 0) := by rw [Lib.cell_of_heap Zv15.out]; rfl
                have y2 : v15.cell? ⟨v11.heap.size, 2, none⟩ = some (.int .i64 0) := by rw [Lib.cell_of_heap Zv15.out]; rfl
                have f0 := Lib.frozen_of_heap Zv15.out 0
                have f1 := Lib.frozen_of_heap Zv15.out 1
                have f2 := Lib.frozen_of_heap Zv15.out 2
                refine wpAnyX_one (i := 18) (by kernel_rfl) (wpOp_wanted rfl (by rfl) ?_)
                go_simp
                refine wpAnyX_done (by kernel_rfl) ?_ _
                have hfin : Below W0.heap.size W0 (((v15.setCell ⟨v11.heap.size, 0, none⟩ (.slice ta tn tc)).setCell ⟨v11.heap.size, 1, none⟩ (.int .i64 ck)).setCell ⟨v11.heap.size, 2, none⟩ (.int .i64 60000)) := ((Bv15.out.setCell (p := ⟨v11.heap.size, 0, none⟩) LA.out _).setCell (p := ⟨v11.heap.size, 1, none⟩) LA.out _).setCell (p := ⟨v11.heap.size, 2, none⟩) LA.out _
                clear y0 y1 y2 f0 f1 f2
                go_wp2_with fail
                go_meet
                exact ⟨rfl, hfin⟩
            · skip
              go_simp
              obtain ⟨v16, hnw⟩ : ∃ W, W = v10.alloc (.cells #[.slice none 0 0, .int .i64 0, .int .i64 0] 28) := ⟨_, rfl⟩
              rw [← hnw]
              have hbb : Below v10.heap.size v10 v16 := by rw [hnw]; exact (Below.refl _ _).alloc (Nat.le_refl _) _
              have Zv16 : Hid (v16.heap[v10.heap.size]? = some (.cells #[.slice none 0 0, .int .i64 0, .int .i64 0] 28 (0, 0))) := hide' (by rw [hnw]; exact heap_alloc_new v10 _)
              have LA : Hid (W0.heap.size ≤ v10.heap.size) := hide' Bv10.out.size
              clear hnw
              have Bv16 := hide' (Bv10.out.trans (hbb.mono Bv10.out.size))
              have Cv16 := hide' (HL.out v16 Bv16.out)
              have Tv16 := hide' (Tv10.out.below hbb (Nat.le_refl _))
              clear hbb Bv10 Cv10 Tv10
              refine ⟨Cv16.out, ?_⟩
              refine wpAnyX_one (i := 0) (by kernel_rfl) (wpOp_wanted rfl (by rfl) ?_)
              go_simp
              refine (tree_any v16).mono ?_
              rintro r v17 ⟨tv, nt, rfl, hnn, hbb⟩
              have Nv17 := hide' hnn
              clear hnn
              have Bv17 := hide' (Bv16.out.trans (hbb.mono Bv16.out.size))
              have Cv17 := hide' (HL.out v17 Bv17.out)
              have Tv17 := hide' (Tv16.out.below hbb (Nat.le_refl _))
              have Zv17 := hide' ((hbb.block _ (lt_of_block Zv16.out)).trans Zv16.out)
              clear hbb Bv16 Cv16 Tv16 Zv16
              refine ⟨Cv17.out, ?_⟩
              refine wpAnyX_one (i := 8) (by kernel_rfl) (wpOp_wanted rfl (by rfl) ?_)
              go_simp
              have hwv : Below w.heap.size w v17 := HW.out.2.2.trans (Bv17.out.mono HW.out.2.2.size)
              refine (lrun_test B nt E tv (.slice (some ⟨v0.heap.size, 0, none⟩) 4 4) p t q st v17 Nv17.out (HG.out.keep (hwv.mono hB)) (Nat.le_trans hB hwv.size) Tv17.out hq).mono ?_
              rintro r v18 ⟨rs, ta, tn, tc, ck, rfl, hbb⟩
              clear hwv
              have Bv18 := hide' (Bv17.out.trans (hbb.mono Bv17.out.size))
              have Cv18 := hide' (HL.out v18 Bv18.out)
              have Zv18 := hide' ((hbb.block _ (lt_of_block Zv17.out)).trans Zv17.out)
              clear hbb Bv17 Cv17 Nv17 Tv17 Zv17
              refine ⟨Cv18.out, ?_⟩
              (refine wpAnyX_take (i := 9) (v := ?_) Cv18.out rfl (by kernel_rfl) (by kernel_rfl) (by kernel_rfl) (by kernel_rfl) (fun _ _ _ h => h) (Or.inl ⟨by kernel_rfl, ?_⟩) ?_; rotate_left; (intro w hc; have k0 := hc.c; clear hc; go_simp; try with_reducible rfl))
              (refine wpAnyX_take (i := 10) (v := ?_) Cv18.out rfl (by kernel_rfl) (by kernel_rfl) (by kernel_rfl) (by kernel_rfl) (fun _ _ _ h => h) (Or.inl ⟨by kernel_rfl, ?_⟩) ?_; rotate_left; (intro w hc; have k0 := hc.c; clear hc; go_simp; try with_reducible rfl))
              (refine wpAnyX_take (i := 11) (v := ?_) Cv18.out rfl (by kernel_rfl) (by kernel_rfl) (by kernel_rfl) (by kernel_rfl) (fun _ _ _ h => h) (Or.inl ⟨by kernel_rfl, ?_⟩) ?_; rotate_left; (intro w hc; have k0 := hc.c; clear hc; go_simp; try with_reducible rfl))
              (refine wpAnyX_take (i := 12) (v := ?_) Cv18.out rfl (by kernel_rfl) (by kernel_rfl) (by kernel_rfl) (by kernel_rfl) (fun _ _ _ h => h) (Or.inl ⟨by kernel_rfl, ?_⟩) ?_; rotate_left; (intro w hc; have k0 := hc.c; clear hc; go_simp; try with_reducible rfl))
              (refine wpAnyX_take (i := 13) (v := ?_) Cv18.out rfl (by kernel_rfl) (by kernel_rfl) (by kernel_rfl) (by kernel_rfl) (fun _ _ _ h => h) (Or.inl ⟨by kernel_rfl, ?_⟩) ?_; rotate_left; (intro w hc; have k0 := hc.c; clear hc; go_simp; try with_reducible rfl))
              go_simp
              refine wpAnyX_one (i := 15) (by kernel_rfl) (wpOp_wanted rfl (by rfl) ?_)
              go_simp
              refine ⟨Cv18.out, ?_⟩
              refine wpAnyX_one (i := 16) (by kernel_rfl) (wpOp_wanted rfl (by rfl) ?_)
              go_simp
              refine ⟨Cv18.out, ?_⟩
              refine wpAnyX_one (i := 17) (by kernel_rfl) (wpOp_wanted rfl (by rfl) ?_)
              go_simp
              refine ⟨Cv18.out, ?_⟩
              have y0 : v18.cell? ⟨v10.heap.size, 0, none⟩ = some (.slice none 0 0) := by rw [Lib.cell_of_heap Zv18.out]; rfl
              have y1 : v18.cell? ⟨v10.heap.size, 1, none⟩ = some (.int .i64 0) := by rw [Lib.cell_of_heap Zv18.out]; rfl
              have y2 : v18.cell? ⟨v10.heap.size, 2, none⟩ = some (.int .i64 0) := by rw [Lib.cell_of_heap Zv18.out]; rfl
              have f0 := Lib.frozen_of_heap Zv18.out 0
              have f1 := Lib.frozen_of_heap Zv18.out 1
              have f2 := Lib.frozen_of_heap Zv18.out 2
              refine wpAnyX_one (i := 18) (by kernel_rfl) (wpOp_wanted rfl (by rfl) ?_)
              go_simp
              refine wpAnyX_done (by kernel_rfl) ?_ _
              have hfin : Below W0.heap.size W0 (((v18.setCell ⟨v10.heap.size, 0, none⟩ (.slice ta tn tc)).setCell ⟨v10.heap.size, 1, none⟩ (.int .i64 ck)).setCell ⟨v10.heap.size, 2, none⟩ (.int .i64 60000)) := ((Bv18.out.setCell (p := ⟨v10.heap.size, 0, none⟩) LA.out _).setCell (p := ⟨v10.heap.size, 1, none⟩) LA.out _).setCell (p := ⟨v10.heap.size, 2, none⟩) LA.out _
              clear y0 y1 y2 f0 f1 f2
              go_wp2_with fail
              go_meet
              exact ⟨rfl, hfin⟩
          · skip
            go_simp
            obtain ⟨v19, hnw⟩ : ∃ W, W = v0.alloc (.cells #[.slice none 0 0, .int .i64 0, .int .i64 0] 28) := ⟨_, rfl⟩
            rw [← hnw]
            have hbb : Below v0.heap.size v0 v19 := by rw [hnw]; exact (Below.refl _ _).alloc (Nat.le_refl _) _
            have Zv19 : Hid (v19.heap[v0.heap.size]? = some (.cells #[.slice none 0 0, .int .i64 0, .int .i64 0] 28 (0, 0))) := hide' (by rw [hnw]; exact heap_alloc_new v0 _)
            have LA : Hid (W0.heap.size ≤ v0.heap.size) := hide' Bv0.out.size
            clear hnw
            have Bv19 := hide' (Bv0.out.trans (hbb.mono Bv0.out.size))
            have Cv19 := hide' (HL.out v19 Bv19.out)
            clear hbb Bv0 Cv0
            refine ⟨Cv19.out, ?_⟩
            refine wpAnyX_two (i := 0) (j := 7) (by kernel_rfl) (wpOp_wanted rfl (by rfl) ?_) (wpOp_wanted rfl (by rfl) ?_)
            · skip
              go_simp
              refine (tree_any v19).mono ?_
              rintro r v20 ⟨tv, nt, rfl, hnn, hbb⟩
              have Nv20 := hide' hnn
              clear hnn
              have Bv20 := hide' (Bv19.out.trans (hbb.mono Bv19.out.size))
              have Cv20 := hide' (HL.out v20 Bv20.out)
              have Zv20 := hide' ((hbb.block _ (lt_of_block Zv19.out)).trans Zv19.out)
              clear hbb Bv19 Cv19 Zv19
              refine ⟨Cv20.out, ?_⟩
              refine wpAnyX_one (i := 7) (by kernel_rfl) (wpOp_wanted rfl (by rfl) ?_)
              go_simp
              obtain ⟨v21, hnw⟩ : ∃ W, W = v20.alloc (.cells #[.string ⟨#[116, 101, 115, 116]⟩, .string (mk p), .string (mk t), .string (mk q)] 9) := ⟨_, rfl⟩
              rw [← hnw]
              have hbb : Below v20.heap.size v20 v21 := by rw [hnw]; exact (Below.refl _ _).alloc (Nat.le_refl _) _
              have Tv21 : Hid (Txs v21 (.slice (some ⟨v20.heap.size, 0, none⟩) 4 4) [[116, 101, 115, 116], p, t, q]) := hide' (by rw [hnw]; exact txs_new v20 [[116, 101, 115, 116], p, t, q])
              clear hnw
              have Bv21 := hide' (Bv20.out.trans (hbb.mono Bv20.out.size))
              have Cv21 := hide' (HL.out v21 Bv21.out)
              have Nv21 := hide' (Nv20.out.below hbb)
              have Zv21 := hide' ((hbb.block _ (lt_of_block Zv20.out)).trans Zv20.out)
              clear hbb Bv20 Cv20 Nv20 Zv20
              refine ⟨Cv21.out, ?_⟩
              refine wpAnyX_one (i := 8) (by kernel_rfl) (wpOp_wanted rfl (by rfl) ?_)
              go_simp
              have hwv : Below w.heap.size w v21 := HW.out.2.2.trans (Bv21.out.mono HW.out.2.2.size)
              refine (lrun_test B nt E tv (.slice (some ⟨v20.heap.size, 0, none⟩) 4 4) p t q st v21 Nv21.out (HG.out.keep (hwv.mono hB)) (Nat.le_trans hB hwv.size) Tv21.out hq).mono ?_
              rintro r v22 ⟨rs, ta, tn, tc, ck, rfl, hbb⟩
              clear hwv
              have Bv22 := hide' (Bv21.out.trans (hbb.mono Bv21.out.size))
              have Cv22 := hide' (HL.out v22 Bv22.out)
              have Zv22 := hide' ((hbb.block _ (lt_of_block Zv21.out)).trans Zv21.out)
              clear hbb Bv21 Cv21 Nv21 Tv21 Zv21
              refine ⟨Cv22.out, ?_⟩
              (refine wpAnyX_take (i := 9) (v := ?_) Cv22.out rfl (by kernel_rfl) (by kernel_rfl) (by kernel_rfl) (by kernel_rfl) (fun _ _ _ h => h) (Or.inl ⟨by kernel_rfl, ?_⟩) ?_; rotate_left; (intro w hc; have k0 := hc.c; clear hc; go_simp; try with_reducible rfl))
              (refine wpAnyX_take (i := 10) (v := ?_) Cv22.out rfl (by kernel_rfl) (by kernel_rfl) (by kernel_rfl) (by kernel_rfl) (fun _ _ _ h => h) (Or.inl ⟨by kernel_rfl, ?_⟩) ?_; rotate_left; (intro w hc; have k0 := hc.c; clear hc; go_simp; try with_reducible rfl))
              (refine wpAnyX_take (i := 11) (v := ?_) Cv22.out rfl (by kernel_rfl) (by kernel_rfl) (by kernel_rfl) (by kernel_rfl) (fun _ _ _ h => h) (Or.inl ⟨by kernel_rfl, ?_⟩) ?_; rotate_left; (intro w hc; have k0 := hc.c; clear hc; go_simp; try with_reducible rfl))
              (refine wpAnyX_take (i := 12) (v := ?_) Cv22.out rfl (by kernel_rfl) (by kernel_rfl) (by kernel_rfl) (by kernel_rfl) (fun _ _ _ h => h) (Or.inl ⟨by kernel_rfl, ?_⟩) ?_; rotate_left; (intro w hc; have k0 := hc.c; clear hc; go_simp; try with_reducible rfl))
              (refine wpAnyX_take (i := 13) (v := ?_) Cv22.out rfl (by kernel_rfl) (by kernel_rfl) (by kernel_rfl) (by kernel_rfl) (fun _ _ _ h => h) (Or.inl ⟨by kernel_rfl, ?_⟩) ?_; rotate_left; (intro w hc; have k0 := hc.c; clear hc; go_simp; try with_reducible rfl))
              go_simp
              refine wpAnyX_one (i := 15) (by kernel_rfl) (wpOp_wanted rfl (by rfl) ?_)
              go_simp
              refine ⟨Cv22.out, ?_⟩
              refine wpAnyX_one (i := 16) (by kernel_rfl) (wpOp_wanted rfl (by rfl) ?_)
              go_simp
              refine ⟨Cv22.out, ?_⟩
              refine wpAnyX_one (i := 17) (by kernel_rfl) (wpOp_wanted rfl (by rfl) ?_)
              go_simp
              refine ⟨Cv22.out, ?_⟩
              have y0 : v22.cell? ⟨v0.heap.size, 0, none⟩ = some (.slice none 0 0) := by rw [Lib.cell_of_heap Zv22.out]; rfl
              have y1 : v22.cell? ⟨v0.heap.size, 1, none⟩ = some (.int .i64 0) := by rw [Lib.cell_of_heap Zv22.out]; rfl
              have y2 : v22.cell? ⟨v0.heap.size, 2, none⟩ = some (.int .i64 0) := by rw [Lib.cell_of_heap Zv22.out]; rfl
              have f0 := Lib.frozen_of_heap Zv22.out 0
              have f1 := Lib.frozen_of_heap Zv22.out 1
              have f2 := Lib.frozen_of_heap Zv22.out 2
              refine wpAnyX_one (i := 18) (by kernel_rfl) (wpOp_wanted rfl (by rfl) ?_)
              go_simp
              refine wpAnyX_done (by kernel_rfl) ?_ _
              have hfin : Below W0.heap.size W0 (((v22.setCell ⟨v0.heap.size, 0, none⟩ (.slice ta tn tc)).setCell ⟨v0.heap.size, 1, none⟩ (.int .i64 ck)).setCell ⟨v0.heap.size, 2, none⟩ (.int .i64 60000)) := ((Bv22.out.setCell (p := ⟨v0.heap.size, 0, none⟩) LA.out _).setCell (p := ⟨v0.heap.size, 1, none⟩) LA.out _).setCell (p := ⟨v0.heap.size, 2, none⟩) LA.out _
              clear y0 y1 y2 f0 f1 f2
              go_wp2_with fail
              go_meet
              exact ⟨rfl, hfin⟩
            · skip
              go_simp
              obtain ⟨v23, hnw⟩ : ∃ W, W = v19.alloc (.cells #[.string ⟨#[116, 101, 115, 116]⟩, .string (mk p), .string (mk t), .string (mk q)] 9) := ⟨_, rfl⟩
              rw [← hnw]
              have hbb : Below v19.heap.size v19 v23 := by rw [hnw]; exact (Below.refl _ _).alloc (Nat.le_refl _) _
              have Tv23 : Hid (Txs v23 (.slice (some ⟨v19.heap.size, 0, none⟩) 4 4) [[116, 101, 115, 116], p, t, q]) := hide' (by rw [hnw]; exact txs_new v19 [[116, 101, 115, 116], p, t, q])
              clear hnw
              have Bv23 := hide' (Bv19.out.trans (hbb.mono Bv19.out.size))
              have Cv23 := hide' (HL.out v23 Bv23.out)
              have Zv23 := hide' ((hbb.block _ (lt_of_block Zv19.out)).trans Zv19.out)
              clear hbb Bv19 Cv19 Zv19
              refine ⟨Cv23.out, ?_⟩
              refine wpAnyX_one (i := 0) (by kernel_rfl) (wpOp_wanted rfl (by rfl) ?_)
              go_simp
              refine (tree_any v23).mono ?_
              rintro r v24 ⟨tv, nt, rfl, hnn, hbb⟩
              have Nv24 := hide' hnn
              clear hnn
              have Bv24 := hide' (Bv23.out.trans (hbb.mono Bv23.out.size))
              have Cv24 := hide' (HL.out v24 Bv24.out)
              have Tv24 := hide' (Tv23.out.below hbb (Nat.le_refl _))
              have Zv24 := hide' ((hbb.block _ (lt_of_block Zv23.out)).trans Zv23.out)
              clear hbb Bv23 Cv23 Tv23 Zv23
              refine ⟨Cv24.out, ?_⟩
              refine wpAnyX_one (i := 8) (by kernel_rfl) (wpOp_wanted rfl (by rfl) ?_)
              go_simp
              have hwv : Below w.heap.size w v24 := HW.out.2.2.trans (Bv24.out.mono HW.out.2.2.size)
              refine (lrun_test B nt E tv (.slice (some ⟨v19.heap.size, 0, none⟩) 4 4) p t q st v24 Nv24.out (HG.out.keep (hwv.mono hB)) (Nat.le_trans hB hwv.size) Tv24.out hq).mono ?_
              rintro r v25 ⟨rs, ta, tn, tc, ck, rfl, hbb⟩
              clear hwv
              have Bv25 := hide' (Bv24.out.trans (hbb.mono Bv24.out.size))
              have Cv25 := hide' (HL.out v25 Bv25.out)
              have Zv25 := hide' ((hbb.block _ (lt_of_block Zv24.out)).trans Zv24.out)
              clear hbb Bv24 Cv24 Nv24 Tv24 Zv24
              refine ⟨Cv25.out, ?_⟩
              (refine wpAnyX_take (i := 9) (v := ?_) Cv25.out rfl (by kernel_rfl) (by kernel_rfl) (by kernel_rfl) (by kernel_rfl) (fun _ _ _ h => h) (Or.inl ⟨by kernel_rfl, ?_⟩) ?_; rotate_left; (intro w hc; have k0 := hc.c; clear hc; go_simp; try with_reducible rfl))
              (refine wpAnyX_take (i := 10) (v := ?_) Cv25.out rfl (by kernel_rfl) (by kernel_rfl) (by kernel_rfl) (by kernel_rfl) (fun _ _ _ h => h) (Or.inl ⟨by kernel_rfl, ?_⟩) ?_; rotate_left; (intro w hc; have k0 := hc.c; clear hc; go_simp; try with_reducible rfl))
              (refine wpAnyX_take (i := 11) (v := ?_) Cv25.out rfl (by kernel_rfl) (by kernel_rfl) (by kernel_rfl) (by kernel_rfl) (fun _ _ _ h => h) (Or.inl ⟨by kernel_rfl, ?_⟩) ?_; rotate_left; (intro w hc; have k0 := hc.c; clear hc; go_simp; try with_reducible rfl))
              (refine wpAnyX_take (i := 12) (v := ?_) Cv25.out rfl (by kernel_rfl) (by kernel_rfl) (by kernel_rfl) (by kernel_rfl) (fun _ _ _ h => h) (Or.inl ⟨by kernel_rfl, ?_⟩) ?_; rotate_left; (intro w hc; have k0 := hc.c; clear hc; go_simp; try with_reducible rfl))
              (refine wpAnyX_take (i := 13) (v := ?_) Cv25.out rfl (by kernel_rfl) (by kernel_rfl) (by kernel_rfl) (by kernel_rfl) (fun _ _ _ h => h) (Or.inl ⟨by kernel_rfl, ?_⟩) ?_; rotate_left; (intro w hc; have k0 := hc.c; clear hc; go_simp; try with_reducible rfl))
              go_simp
              refine wpAnyX_one (i := 15) (by kernel_rfl) (wpOp_wanted rfl (by rfl) ?_)
              go_simp
              refine ⟨Cv25.out, ?_⟩
              refine wpAnyX_one (i := 16) (by kernel_rfl) (wpOp_wanted rfl (by rfl) ?_)
              go_simp
              refine ⟨Cv25.out, ?_⟩
              refine wpAnyX_one (i := 17) (by kernel_rfl) (wpOp_wanted rfl (by rfl) ?_)
              go_simp
              refine ⟨Cv25.out, ?_⟩
              have y0 : v25.cell? ⟨v0.heap.size, 0, none⟩ = some (.slice none 0 0) := by rw [Lib.cell_of_heap Zv25.out]; rfl
              have y1 : v25.cell? ⟨v0.heap.size, 1, none⟩ = some (.int .i64 0) := by rw [Lib.cell_of_heap Zv25.out]; rfl
              have y2 : v25.cell? ⟨v0.heap.size, 2, none⟩ = some (.int .i64 0) := by rw [Lib.cell_of_heap Zv25.out]; rfl
              have f0 := Lib.frozen_of_heap Zv25.out 0
              have f1 := Lib.frozen_of_heap Zv25.out 1
              have f2 := Lib.frozen_of_heap Zv25.out 2
              refine wpAnyX_one (i := 18) (by kernel_rfl) (wpOp_wanted rfl (by rfl) ?_)
              go_simp
              refine wpAnyX_done (by kernel_rfl) ?_ _
              have hfin : Below W0.heap.size W0 (((v25.setCell ⟨v0.heap.size, 0, none⟩ (.slice ta tn tc)).setCell ⟨v0.heap.size, 1, none⟩ (.int .i64 ck)).setCell ⟨v0.heap.size, 2, none⟩ (.int .i64 60000)) := ((Bv25.out.setCell (p := ⟨v0.heap.size, 0, none⟩) LA.out _).setCell (p := ⟨v0.heap.size, 1, none⟩) LA.out _).setCell (p := ⟨v0.heap.size, 2, none⟩) LA.out _
              clear y0 y1 y2 f0 f1 f2
              go_wp2_with fail
              go_meet
              exact ⟨rfl, hfin⟩
        case rest =>
          obtain ⟨rfl, hbc⟩ := hcut
          go_upto_region 12 with fail
          go_cut [19, 20, 21, 22] from 85 to 133 (fun _ s _ _ wx => s = .int .i64 su ∧ Below W0.heap.size W0 wx)
          case first =>
            refine wp_region_classX [18] (C := LtC w'.heap.size n t) (by kernel_rfl) ?_
            obtain ⟨v0, hv0⟩ : ∃ v0, v0 = wc.drew := ⟨_, rfl⟩
            rw [← hv0]
            have bv0 : Below W0.heap.size W0 v0 := by rw [hv0]; exact ⟨hbc.os, hbc.tape, hbc.output, hbc.size, hbc.block⟩
            clear hv0
            have Bv0 := hide' bv0
            have Cv0 := hide' (HL.out v0 bv0)
            clear bv0
            (refine wpAnyX_take (i := 1) (v := ?_) Cv0.out rfl (by kernel_rfl) (by kernel_rfl) (by kernel_rfl) (by kernel_rfl) (fun _ _ _ h => h) (Or.inl ⟨by kernel_rfl, ?_⟩) ?_; rotate_left; (intro w hc; have k0 := hc.c; clear hc; go_simp; try with_reducible rfl))
            (refine wpAnyX_take (i := 2) (v := ?_) Cv0.out rfl (by kernel_rfl) (by kernel_rfl) (by kernel_rfl) (by kernel_rfl) (fun _ _ _ h => h) (Or.inl ⟨by kernel_rfl, ?_⟩) ?_; rotate_left; (intro w hc; have k0 := hc.c; clear hc; go_simp; try with_reducible rfl))
            (refine wpAnyX_take (i := 3) (v := ?_) Cv0.out rfl (by kernel_rfl) (by kernel_rfl) (by kernel_rfl) (by kernel_rfl) (fun _ _ _ h => h) (Or.inl ⟨by kernel_rfl, ?_⟩) ?_; rotate_left; (intro w hc; have k0 := hc.c; clear hc; go_simp; try with_reducible rfl))
            go_simp
            (refine wpAnyX_take (i := 4) (v := ?_) Cv0.out rfl (by kernel_rfl) (by kernel_rfl) (by kernel_rfl) (by kernel_rfl) (fun _ _ _ h => h) (Or.inl ⟨by kernel_rfl, ?_⟩) ?_; rotate_left; (intro w hc; have k0 := hc.c; clear hc; go_simp; try with_reducible rfl))
            (refine wpAnyX_take (i := 5) (v := ?_) Cv0.out rfl (by kernel_rfl) (by kernel_rfl) (by kernel_rfl) (by kernel_rfl) (fun _ _ _ h => h) (Or.inl ⟨by kernel_rfl, ?_⟩) ?_; rotate_left; (intro w hc; have k0 := hc.c; clear hc; go_simp; try with_reducible rfl))
            go_simp
            (refine wpAnyX_take (i := 6) (v := ?_) Cv0.out rfl (by kernel_rfl) (by kernel_rfl) (by kernel_rfl) (by kernel_rfl) (fun _ _ _ h => h) (Or.inl ⟨by kernel_rfl, ?_⟩) ?_; rotate_left; (intro w hc; have k0 := hc.c; clear hc; go_simp; try with_reducible rfl))
            go_simp
            refine wpAnyX_three (i := 0) (j := 7) (k := 14) (by kernel_rfl) (wpOp_wanted rfl (by rfl) ?_) (wpOp_wanted rfl (by rfl) ?_) (wpOp_wanted rfl (by rfl) ?_)
            · skip
              go_simp
              refine (tree_any v0).mono ?_
              rintro r v1 ⟨tv, nt, rfl, hnn, hbb⟩
              have Nv1 := hide' hnn
              clear hnn
              have Bv1 := hide' (Bv0.out.trans (hbb.mono Bv0.out.size))
              have Cv1 := hide' (HL.out v1 Bv1.out)
              clear hbb Bv0 Cv0
              refine ⟨Cv1.out, ?_⟩
              refine wpAnyX_two (i := 7) (j := 14) (by kernel_rfl) (wpOp_wanted rfl (by rfl) ?_) (wpOp_wanted rfl (by rfl) ?_)
              · skip
                go_simp
                obtain ⟨v2, hnw⟩ : ∃ W, W = v1.alloc (.cells #[.string ⟨#[91]⟩, .string ⟨#[33]⟩, .string (mk p), .string (mk t), .string (mk q), .string ⟨#[93]⟩] 9) := ⟨_, rfl⟩
                rw [← hnw]
                have hbb : Below v1.heap.size v1 v2 := by rw [hnw]; exact (Below.refl _ _).alloc (Nat.le_refl _) _
                have Tv2 : Hid (Txs v2 (.slice (some ⟨v1.heap.size, 0, none⟩) 6 6) [[91], [33], p, t, q, [93]]) := hide' (by rw [hnw]; exact txs_new v1 [[91], [33], p, t, q, [93]])
                clear hnw
                have Bv2 := hide' (Bv1.out.trans (hbb.mono Bv1.out.size))
                have Cv2 := hide' (HL.out v2 Bv2.out)
                have Nv2 := hide' (Nv1.out.below hbb)
                clear hbb Bv1 Cv1 Nv1
                refine ⟨Cv2.out, ?_⟩
                refine wpAnyX_two (i := 8) (j := 14) (by kernel_rfl) (wpOp_wanted rfl (by rfl) ?_) (wpOp_wanted rfl (by rfl) ?_)
                · skip
                  go_simp
                  have hwv : Below w.heap.size w v2 := HW.out.2.2.trans (Bv2.out.mono HW.out.2.2.size)
                  refine (lrun_nots su HSU.out B nt E tv (.slice (some ⟨v1.heap.size, 0, none⟩) 6 6) p t q st v2 Nv2.out (HG.out.keep (hwv.mono hB)) (Nat.le_trans hB hwv.size) Tv2.out hq).mono ?_
                  rintro r v3 ⟨rs, ta, tn, tc, ck, rfl, hbb⟩
                  clear hwv
                  have Bv3 := hide' (Bv2.out.trans (hbb.mono Bv2.out.size))
                  have Cv3 := hide' (HL.out v3 Bv3.out)
                  clear hbb Bv2 Cv2 Nv2 Tv2
                  refine ⟨Cv3.out, ?_⟩
                  (refine wpAnyX_take (i := 9) (v := ?_) Cv3.out rfl (by kernel_rfl) (by kernel_rfl) (by kernel_rfl) (by kernel_rfl) (fun _ _ _ h => h) (Or.inl ⟨by kernel_rfl, ?_⟩) ?_; rotate_left; (intro w hc; have k0 := hc.c; clear hc; go_simp; try with_reducible rfl))
                  (refine wpAnyX_take (i := 10) (v := ?_) Cv3.out rfl (by kernel_rfl) (by kernel_rfl) (by kernel_rfl) (by kernel_rfl) (fun _ _ _ h => h) (Or.inl ⟨by kernel_rfl, ?_⟩) ?_; rotate_left; (intro w hc; have k0 := hc.c; clear hc; go_simp; try with_reducible rfl))
                  (refine wpAnyX_take (i := 11) (v := ?_) Cv3.out rfl (by kernel_rfl) (by kernel_rfl) (by kernel_rfl) (by kernel_rfl) (fun _ _ _ h => h) (Or.inl ⟨by kernel_rfl, ?_⟩) ?_; rotate_left; (intro w hc; have k0 := hc.c; clear hc; go_simp; try with_reducible rfl))
                  (refine wpAnyX_take (i := 12) (v := ?_) Cv3.out rfl (by kernel_rfl) (by kernel_rfl) (by kernel_rfl) (by kernel_rfl) (fun _ _ _ h => h) (Or.inl ⟨by kernel_rfl, ?_⟩) ?_; rotate_left; (intro w hc; have k0 := hc.c; clear hc; go_simp; try with_reducible rfl))
                  (refine wpAnyX_take (i := 13) (v := ?_) Cv3.out rfl (by kernel_rfl) (by kernel_rfl) (by kernel_rfl) (by kernel_rfl) (fun _ _ _ h => h) (Or.inl ⟨by kernel_rfl, ?_⟩) ?_; rotate_left; (intro w hc; have k0 := hc.c; clear hc; go_simp; try with_reducible rfl))
                  go_simp
                  refine wpAnyX_one (i := 14) (by kernel_rfl) (wpOp_wanted rfl (by rfl) ?_)
                  go_simp
                  obtain ⟨v4, hnw⟩ : ∃ W, W = v3.alloc (.cells #[.slice none 0 0, .int .i64 0, .int .i64 0] 28) := ⟨_, rfl⟩
                  rw [← hnw]
                  have hbb : Below v3.heap.size v3 v4 := by rw [hnw]; exact (Below.refl _ _).alloc (Nat.le_refl _) _
                  have Zv4 : Hid (v4.heap[v3.heap.size]? = some (.cells #[.slice none 0 0, .int .i64 0, .int .i64 0] 28 (0, 0))) := hide' (by rw [hnw]; exact heap_alloc_new v3 _)
                  have LA : Hid (W0.heap.size ≤ v3.heap.size) := hide' Bv3.out.size
                  clear hnw
                  have Bv4 := hide' (Bv3.out.trans (hbb.mono Bv3.out.size))
                  have Cv4 := hide' (HL.out v4 Bv4.out)
                  clear hbb Bv3 Cv3
                  refine ⟨Cv4.out, ?_⟩
                  refine wpAnyX_one (i := 15) (by kernel_rfl) (wpOp_wanted rfl (by rfl) ?_)
                  go_simp
                  refine ⟨Cv4.out, ?_⟩
                  refine wpAnyX_one (i := 16) (by kernel_rfl) (wpOp_wanted rfl (by rfl) ?_)
                  go_simp
                  refine ⟨Cv4.out, ?_⟩
                  refine wpAnyX_one (i := 17) (by kernel_rfl) (wpOp_wanted rfl (by rfl) ?_)
                  go_simp
                  refine ⟨Cv4.out, ?_⟩
                  have y0 : v4.cell? ⟨v3.heap.size, 0, none⟩ = some (.slice none 0 0) := by rw [Lib.cell_of_heap Zv4.out]; rfl
                  have y1 : v4.cell? ⟨v3.heap.size, 1, none⟩ = some (.int .i64 0) := by rw [Lib.cell_of_heap Zv4.out]; rfl
                  have y2 : v4.cell? ⟨v3.heap.size, 2, none⟩ = some (.int .i64 0) := by rw [Lib.cell_of_heap Zv4.out]; rfl
                  have f0 := Lib.frozen_of_heap Zv4.out 0
                  have f1 := Lib.frozen_of_heap Zv4.out 1
                  have f2 := Lib.frozen_of_heap Zv4.out 2
                  refine wpAnyX_one (i := 18) (by kernel_rfl) (wpOp_wanted rfl (by rfl) ?_)
                  go_simp
                  refine wpAnyX_done (by kernel_rfl) ?_ _
                  have hfin : Below W0.heap.size W0 (((v4.setCell ⟨v3.heap.size, 0, none⟩ (.slice ta tn tc)).setCell ⟨v3.heap.size, 1, none⟩ (.int .i64 ck)).setCell ⟨v3.heap.size, 2, none⟩ (.int .i64 60000)) := ((Bv4.out.setCell (p := ⟨v3.heap.size, 0, none⟩) LA.out _).setCell (p := ⟨v3.heap.size, 1, none⟩) LA.out _).setCell (p := ⟨v3.heap.size, 2, none⟩) LA.out _
                  clear y0 y1 y2 f0 f1 f2
                  go_wp2_with fail
                  go_meet
                  exact ⟨rfl, hfin⟩
                · skip
                  go_simp
                  obtain ⟨v5, hnw⟩ : ∃ W, W = v2.alloc (.cells #[.slice none 0 0, .int .i64 0, .int .i64 0] 28) := ⟨_, rfl⟩
                  rw [← hnw]
                  have hbb : Below v2.heap.size v2 v5 := by rw [hnw]; exact (Below.refl _ _).alloc (Nat.le_refl _) _
                  have Zv5 : Hid (v5.heap[v2.heap.size]? = some (.cells #[.slice none 0 0, .int .i64 0, .int .i64 0] 28 (0, 0))) := hide' (by rw [hnw]; exact heap_alloc_new v2 _)
                  have LA : Hid (W0.heap.size ≤ v2.heap.size) := hide' Bv2.out.size
                  clear hnw
                  have Bv5 := hide' (Bv2.out.trans (hbb.mono Bv2.out.size))
                  have Cv5 := hide' (HL.out v5 Bv5.out)
                  have Nv5 := hide' (Nv2.out.below hbb)
                  have Tv5 := hide' (Tv2.out.below hbb (Nat.le_refl _))
                  clear hbb Bv2 Cv2 Nv2 Tv2
                  refine ⟨Cv5.out, ?_⟩
                  refine wpAnyX_one (i := 8) (by kernel_rfl) (wpOp_wanted rfl (by rfl) ?_)
                  go_simp
                  have hwv : Below w.heap.size w v5 := HW.out.2.2.trans (Bv5.out.mono HW.out.2.2.size)
                  refine (lrun_nots su HSU.out B nt E tv (.slice (some ⟨v1.heap.size, 0, none⟩) 6 6) p t q st v5 Nv5.out (HG.out.keep (hwv.mono hB)) (Nat.le_trans hB hwv.size) Tv5.out hq).mono ?_
                  rintro r v6 ⟨rs, ta, tn, tc, ck, rfl, hbb⟩
                  clear hwv
                  have Bv6 := hide' (Bv5.out.trans (hbb.mono Bv5.out.size))
                  have Cv6 := hide' (HL.out v6 Bv6.out)
                  have Zv6 := hide' ((hbb.block _ (lt_of_block Zv5.out)).trans Zv5.out)
                  clear hbb Bv5 Cv5 Nv5 Tv5 Zv5
                  refine ⟨Cv6.out, ?_⟩
                  (refine wpAnyX_take (i := 9) (v := ?_) Cv6.out rfl (by kernel_rfl) (by kernel_rfl) (by kernel_rfl) (by kernel_rfl) (fun _ _ _ h => h) (Or.inl ⟨by kernel_rfl, ?_⟩) ?_; rotate_left; (intro w hc; have k0 := hc.c; clear hc; go_simp; try with_reducible rfl))
                  (refine wpAnyX_take (i := 10) (v := ?_) Cv6.out rfl (by kernel_rfl) (by kernel_rfl) (by kernel_rfl) (by kernel_rfl) (fun _ _ _ h => h) (Or.inl ⟨by kernel_rfl, ?_⟩) ?_; rotate_left; (intro w hc; have k0 := hc.c; clear hc; go_simp; try with_reducible rfl))
                  (refine wpAnyX_take (i := 11) (v := ?_) Cv6.out rfl (by kernel_rfl) (by kernel_rfl) (by kernel_rfl) (by kernel_rfl) (fun _ _ _ h => h) (Or.inl ⟨by kernel_rfl, ?_⟩) ?_; rotate_left; (intro w hc; have k0 := hc.c; clear hc; go_simp; try with_reducible rfl))
                  (refine wpAnyX_take (i := 12) (v := ?_) Cv6.out rfl (by kernel_rfl) (by kernel_rfl) (by kernel_rfl) (by kernel_rfl) (fun _ _ _ h => h) (Or.inl ⟨by kernel_rfl, ?_⟩) ?_; rotate_left; (intro w hc; have k0 := hc.c; clear hc; go_simp; try with_reducible rfl))
                  (refine wpAnyX_take (i := 13) (v := ?_) Cv6.out rfl (by kernel_rfl) (by kernel_rfl) (by kernel_rfl) (by kernel_rfl) (fun _ _ _ h => h) (Or.inl ⟨by kernel_rfl, ?_⟩) ?_; rotate_left; (intro w hc; have k0 := hc.c; clear hc; go_simp; try with_reducible rfl))
                  go_simp
                  refine wpAnyX_one (i := 15) (by kernel_rfl) (wpOp_wanted rfl (by rfl) ?_)
                  go_simp
                  refine ⟨Cv6.out, ?_⟩
                  refine wpAnyX_one (i := 16) (by kernel_rfl) (wpOp_wanted rfl (by rfl) ?_)
                  go_simp
                  refine ⟨Cv6.out, ?_⟩
                  refine wpAnyX_one (i := 17) (by kernel_rfl) (wpOp_wanted rfl (by rfl) ?_)
                  go_simp
                  refine ⟨Cv6.out, ?_⟩
                  have y0 : v6.cell? ⟨v2.heap.size, 0, none⟩ = some (.slice none 0 0) := by rw [Lib.cell_of_heap Zv6.out]; rfl
                  have y1 : v6.cell? ⟨v2.heap.size, 1, none⟩ = some (.int .i64 0) := by rw [Lib.cell_of_heap Zv6.out]; rfl
                  have y2 : v6.cell? ⟨v2.heap.size, 2, none⟩ = some (.int .i64 0) := by rw [Lib.cell_of_heap Zv6.out]; rfl
                  have f0 := Lib.frozen_of_heap Zv6.out 0
                  have f1 := Lib.frozen_of_heap Zv6.out 1
                  have f2 := Lib.frozen_of_heap Zv6.out 2
                  refine wpAnyX_one (i := 18) (by kernel_rfl) (wpOp_wanted rfl (by rfl) ?_)
                  go_simp
                  refine wpAnyX_done (by kernel_rfl) ?_ _
                  have hfin : Below W0.heap.size W0 (((v6.setCell ⟨v2.heap.size, 0, none⟩ (.slice ta tn tc)).setCell ⟨v2.heap.size, 1, none⟩ (.int .i64 ck)).setCell ⟨v2.heap.size, 2, none⟩ (.int .i64 60000)) := ((Bv6.out.setCell (p := ⟨v2.heap.size, 0, none⟩) LA.out _).setCell (p := ⟨v2.heap.size, 1, none⟩) LA.out _).setCell (p := ⟨v2.heap.size, 2, none⟩) LA.out _
                  clear y0 y1 y2 f0 f1 f2
                  go_wp2_with fail
                  go_meet
                  exact ⟨rfl, hfin⟩
              · skip
                go_simp
                obtain ⟨v7, hnw⟩ : ∃ W, W = v1.alloc (.cells #[.slice none 0 0, .int .i64 0, .int .i64 0] 28) := ⟨_, rfl⟩
                rw [← hnw]
                have hbb : Below v1.heap.size v1 v7 := by rw [hnw]; exact (Below.refl _ _).alloc (Nat.le_refl _) _
                have Zv7 : Hid (v7.heap[v1.heap.size]? = some (.cells #[.slice none 0 0, .int .i64 0, .int .i64 0] 28 (0, 0))) := hide' (by rw [hnw]; exact heap_alloc_new v1 _)
                have LA : Hid (W0.heap.size ≤ v1.heap.size) := hide' Bv1.out.size
                clear hnw
                have Bv7 := hide' (Bv1.out.trans (hbb.mono Bv1.out.size))
                have Cv7 := hide' (HL.out v7 Bv7.out)
                have Nv7 := hide' (Nv1.out.below hbb)
                clear hbb Bv1 Cv1 Nv1
                refine ⟨Cv7.out, ?_⟩
                refine wpAnyX_one (i := 7) (by kernel_rfl) (wpOp_wanted rfl (by rfl) ?_)
                go_simp
                obtain ⟨v8, hnw⟩ : ∃ W, W = v7.alloc (.cells #[.string ⟨#[91]⟩, .string ⟨#[33]⟩, .string (mk p), .string (mk t), .string (mk q), .string ⟨#[93]⟩] 9) := ⟨_, rfl⟩
                rw [← hnw]
                have hbb : Below v7.heap.size v7 v8 := by rw [hnw]; exact (Below.refl _ _).alloc (Nat.le_refl _) _
                have Tv8 : Hid (Txs v8 (.slice (some ⟨v7.heap.size, 0, none⟩) 6 6) [[91], [33], p, t, q, [93]]) := hide' (by rw [hnw]; exact txs_new v7 [[91], [33], p, t, q, [93]])
                clear hnw
                have Bv8 := hide' (Bv7.out.trans (hbb.mono Bv7.out.size))
                have Cv8 := hide' (HL.out v8 Bv8.out)
                have Nv8 := hide' (Nv7.out.below hbb)
                have Zv8 := hide' ((hbb.block _ (lt_of_block Zv7.out)).trans Zv7.out)
                clear hbb Bv7 Cv7 Nv7 Zv7
                refine ⟨Cv8.out, ?_⟩
                refine wpAnyX_one (i := 8) (by kernel_rfl) (wpOp_wanted rfl (by rfl) ?_)
                go_simp
                have hwv : Below w.heap.size w v8 := HW.out.2.2.trans (Bv8.out.mono HW.out.2.2.size)
                refine (lrun_nots su HSU.out B nt E tv (.slice (some ⟨v7.heap.size, 0, none⟩) 6 6) p t q st v8 Nv8.out (HG.out.keep (hwv.mono hB)) (Nat.le_trans hB hwv.size) Tv8.out hq).mono ?_
                rintro r v9 ⟨rs, ta, tn, tc, ck, rfl, hbb⟩
                clear hwv
                have Bv9 := hide' (Bv8.out.trans (hbb.mono Bv8.out.size))
                have Cv9 := hide' (HL.out v9 Bv9.out)
                have Zv9 := hide' ((hbb.block _ (lt_of_block Zv8.out)).trans Zv8.out)
                clear hbb Bv8 Cv8 Nv8 Tv8 Zv8
                refine ⟨Cv9.out, ?_⟩
                (refine wpAnyX_take (i := 9) (v := ?_) Cv9.out rfl (by kernel_rfl) (by kernel_rfl) (by kernel_rfl) (by kernel_rfl) (fun _ _ _ h => h) (Or.inl ⟨by kernel_rfl, ?_⟩) ?_; rotate_left; (intro w hc; have k0 := hc.c; clear hc; go_simp; try with_reducible rfl))
                (refine wpAnyX_take (i := 10) (v := ?_) Cv9.out rfl (by kernel_rfl) (by kernel_rfl) (by kernel_rfl) (by kernel_rfl) (fun _ _ _ h => h) (Or.inl ⟨by kernel_rfl, ?_⟩) ?_; rotate_left; (intro w hc; have k0 := hc.c; clear hc; go_simp; try with_reducible rfl))
                (refine wpAnyX_take (i := 11) (v := ?_) Cv9.out rfl (by kernel_rfl) (by kernel_rfl) (by kernel_rfl) (by kernel_rfl) (fun _ _ _ h => h) (Or.inl ⟨by kernel_rfl, ?_⟩) ?_; rotate_left; (intro w hc; have k0 := hc.c; clear hc; go_simp; try with_reducible rfl))
                (refine wpAnyX_take (i := 12) (v := ?_) Cv9.out rfl (by kernel_rfl) (by kernel_rfl) (by kernel_rfl) (by kernel_rfl) (fun _ _ _ h => h) (Or.inl ⟨by kernel_rfl, ?_⟩) ?_; rotate_left; (intro w hc; have k0 := hc.c; clear hc; go_simp; try with_reducible rfl))
                (refine wpAnyX_take (i := 13) (v := ?_) Cv9.out rfl (by kernel_rfl) (by kernel_rfl) (by kernel_rfl) (by kernel_rfl) (fun _ _ _ h => h) (Or.inl ⟨by kernel_rfl, ?_⟩) ?_; rotate_left; (intro w hc; have k0 := hc.c; clear hc; go_simp; try with_reducible rfl))
                go_simp
                refine wpAnyX_one (i := 15) (by kernel_rfl) (wpOp_wanted rfl (by rfl) ?_)
                go_simp
                refine ⟨Cv9.out, ?_⟩
                refine wpAnyX_one (i := 16) (by kernel_rfl) (wpOp_wanted rfl (by rfl) ?_)
                go_simp
                refine ⟨Cv9.out, ?_⟩
                refine wpAnyX_one (i := 17) (by kernel_rfl) (wpOp_wanted rfl (by rfl) ?_)
                go_simp
                refine ⟨Cv9.out, ?_⟩
                have y0 : v9.cell? ⟨v1.heap.size, 0, none⟩ = some (.slice none 0 0) := by rw [Lib.cell_of_heap Zv9.out]; rfl
                have y1 : v9.cell? ⟨v1.heap.size, 1, none⟩ = some (.int .i64 0) := by rw [Lib.cell_of_heap Zv9.out]; rfl
                have y2 : v9.cell? ⟨v1.heap.size, 2, none⟩ = some (.int .i64 0) := by rw [Lib.cell_of_heap Zv9.out]; rfl
                have f0 := Lib.frozen_of_heap Zv9.out 0
                have f1 := Lib.frozen_of_heap Zv9.out 1
                have f2 := Lib.frozen_of_heap Zv9.out 2
                refine wpAnyX_one (i := 18) (by kernel_rfl) (wpOp_wanted rfl (by rfl) ?_)
                go_simp
                refine wpAnyX_done (by kernel_rfl) ?_ _
                have hfin : Below W0.heap.size W0 (((v9.setCell ⟨v1.heap.size, 0, none⟩ (.slice ta tn tc)).setCell ⟨v1.heap.size, 1, none⟩ (.int .i64 ck)).setCell ⟨v1.heap.size, 2, none⟩ (.int .i64 60000)) := ((Bv9.out.setCell (p := ⟨v1.heap.size, 0, none⟩) LA.out _).setCell (p := ⟨v1.heap.size, 1, none⟩) LA.out _).setCell (p := ⟨v1.heap.size, 2, none⟩) LA.out _
                clear y0 y1 y2 f0 f1 f2
                go_wp2_with fail
                go_meet
                exact ⟨rfl, hfin⟩
            · skip
              go_simp
              obtain ⟨v10, hnw⟩ : ∃ W, W = v0.alloc (.cells #[.string ⟨#[91]⟩, .string ⟨#[33]⟩, .string (mk p), .string (mk t), .string (mk q), .string ⟨#[93]⟩] 9) := ⟨_, rfl⟩
              rw [← hnw]
              have hbb : Below v0.heap.size v0 v10 := by rw [hnw]; exact (Below.refl _ _).alloc (Nat.le_refl _) _
              have Tv10 : Hid (Txs v10 (.slice (some ⟨v0.heap.size, 0, none⟩) 6 6) [[91], [33], p, t, q, [93]]) := hide' (by rw [hnw]; exact txs_new v0 [[91], [33], p, t, q, [93]])
              clear hnw
              have Bv10 := hide' (Bv0.out.trans (hbb.mono Bv0.out.size))
              have Cv10 := hide' (HL.out v10 Bv10.out)
              clear hbb Bv0 Cv0
              refine ⟨Cv10.out, ?_⟩
              refine wpAnyX_two (i := 0) (j := 14) (by kernel_rfl) (wpOp_wanted rfl (by rfl) ?_) (wpOp_wanted rfl (by rfl) ?_)
              · skip
                go_simp
                refine (tree_any v10).mono ?_
                rintro r v11 ⟨tv, nt, rfl, hnn, hbb⟩
                have Nv11 := hide' hnn
                clear hnn
                have Bv11 := hide' (Bv10.out.trans (hbb.mono Bv10.out.size))
                have Cv11 := hide' (HL.out v11 Bv11.out)
                have Tv11 := hide' (Tv10.out.below hbb (Nat.le_refl _))
                clear hbb Bv10 Cv10 Tv10
                refine ⟨Cv11.out, ?_⟩
                refine wpAnyX_two (i := 8) (j := 14) (by kernel_rfl) (wpOp_wanted rfl (by rfl) ?_) (wpOp_wanted rfl (by rfl) ?_)
                · skip
                  go_simp
                  have hwv : Below w.heap.size w v11 := HW.out.2.2.trans (Bv11.out.mono HW.out.2.2.size)
                  refine (lrun_nots su HSU.out B nt E tv (.slice (some ⟨v0.heap.size, 0, none⟩) 6 6) p t q st v11 Nv11.out (HG.out.keep (hwv.mono hB)) (Nat.le_trans hB hwv.size) Tv11.out hq).mono ?_
                  rintro r v12 ⟨rs, ta, tn, tc, ck, rfl, hbb⟩
                  clear hwv
                  have Bv12 := hide' (Bv11.out.trans (hbb.mono Bv11.out.size))
                  have Cv12 := hide' (HL.out v12 Bv12.out)
                  clear hbb Bv11 Cv11 Nv11 Tv11
                  refine ⟨Cv12.out, ?_⟩
                  (refine wpAnyX_take (i := 9) (v := ?_) Cv12.out rfl (by kernel_rfl) (by kernel_rfl) (by kernel_rfl) (by kernel_rfl) (fun _ _ _ h => h) (Or.inl ⟨by kernel_rfl, ?_⟩) ?_; rotate_left; (intro w hc; have k0 := hc.c; clear hc; go_simp; try with_reducible rfl))
                  (refine wpAnyX_take (i := 10) (v := ?_) Cv12.out rfl (by kernel_rfl) (by kernel_rfl) (by kernel_rfl) (by kernel_rfl) (fun _ _ _ h => h) (Or.inl ⟨by kernel_rfl, ?_⟩) ?_; rotate_left; (intro w hc; have k0 := hc.c; clear hc; go_simp; try with_reducible rfl))
                  (refine wpAnyX_take (i := 11) (v := ?_) Cv12.out rfl (by kernel_rfl) (by kernel_rfl) (by kernel_rfl) (by kernel_rfl) (fun _ _ _ h => h) (Or.inl ⟨by kernel_rfl, ?_⟩) ?_; rotate_left; (intro w hc; have k0 := hc.c; clear hc; go_simp; try with_reducible rfl))
                  (refine wpAnyX_take (i := 12) (v := ?_) Cv12.out rfl (by kernel_rfl) (by kernel_rfl) (by kernel_rfl) (by kernel_rfl) (fun _ _ _ h => h) (Or.inl ⟨by kernel_rfl, ?_⟩) ?_; rotate_left; (intro w hc; have k0 := hc.c; clear hc; go_simp; try with_reducible rfl))
                  (refine wpAnyX_take (i := 13) (v := ?_) Cv12.out rfl (by kernel_rfl) (by kernel_rfl) (by kernel_rfl) (by kernel_rfl) (fun _ _ _ h => h) (Or.inl ⟨by kernel_rfl, ?_⟩) ?_; rotate_left; (intro w hc; have k0 := hc.c; clear hc; go_simp; try with_reducible rfl))
                  go_simp
                  refine wpAnyX_one (i := 14) (by kernel_rfl) (wpOp_wanted rfl (by rfl) ?_)
                  go_simp
                  obtain ⟨v13, hnw⟩ : ∃ W, W = v12.alloc (.cells #[.slice none 0 0, .int .i64 0, .int .i64 0] 28) := ⟨_, rfl⟩
                  rw [← hnw]
                  have hbb : Below v12.heap.size v12 v13 := by rw [hnw]; exact (Below.refl _ _).alloc (Nat.le_refl _) _
                  have Zv13 : Hid (v13.heap[v12.heap.size]? = some (.cells #[.slice none 0 0, .int .i64 0, .int .i64 0] 28 (0, 0))) := hide' (by rw [hnw]; exact heap_alloc_new v12 _)
                  have LA : Hid (W0.heap.size ≤ v12.heap.size) := hide' Bv12.out.size
                  clear hnw
                  have Bv13 := hide' (Bv12.out.trans (hbb.mono Bv12.out.size))
                  have Cv13 := hide' (HL.out v13 Bv13.out)
                  clear hbb Bv12 Cv12
                  refine ⟨Cv13.out, ?_⟩
                  refine wpAnyX_one (i := 15) (by kernel_rfl) (wpOp_wanted rfl (by rfl) ?_)
                  go_simp
                  refine ⟨Cv13.out, ?_⟩
                  refine wpAnyX_one (i := 16) (by kernel_rfl) (wpOp_wanted rfl (by rfl) ?_)
                  go_simp
                  refine ⟨Cv13.out, ?_⟩
                  refine wpAnyX_one (i := 17) (by kernel_rfl) (wpOp_wanted rfl (by rfl) ?_)
                  go_simp
                  refine ⟨Cv13.out, ?_⟩
                  have y0 : v13.cell? ⟨v12.heap.size, 0, none⟩ = some (.slice none 0 0) := by rw [Lib.cell_of_heap Zv13.out]; rfl
                  have y1 : v13.cell? ⟨v12.heap.size, 1, none⟩ = some (.int .i64 0) := by rw [Lib.cell_of_heap Zv13.out]; rfl
                  have y2 : v13.cell? ⟨v12.heap.size, 2, none⟩ = some (.int .i64 0) := by rw [Lib.cell_of_heap Zv13.out]; rfl
                  have f0 := Lib.frozen_of_heap Zv13.out 0
                  have f1 := Lib.frozen_of_heap Zv13.out 1
                  have f2 := Lib.frozen_of_heap Zv13.out 2
                  refine wpAnyX_one (i := 18) (by kernel_rfl) (wpOp_wanted rfl (by rfl) ?_)
                  go_simp
                  refine wpAnyX_done (by kernel_rfl) ?_ _
                  have hfin : Below W0.heap.size W0 (((v13.setCell ⟨v12.heap.size, 0, none⟩ (.slice ta tn tc)).setCell ⟨v12.heap.size, 1, none⟩ (.int .i64 ck)).setCell ⟨v12.heap.size, 2, none⟩ (.int .i64 60000)) := ((Bv13.out.setCell (p := ⟨v12.heap.size, 0, none⟩) LA.out _).setCell (p := ⟨v12.heap.size, 1, none⟩) LA.out _).setCell (p := ⟨v12.heap.size, 2, none⟩) LA.out _
                  clear y0 y1 y2 f0 f1 f2
                  go_wp2_with fail
                  go_meet
                  exact ⟨rfl, hfin⟩
                · skip
                  go_simp
                  obtain ⟨v14, hnw⟩ : ∃ W, W = v11.alloc (.cells #[.slice none 0 0, .int .i64 0, .int .i64 0] 28) := ⟨_, rfl⟩
                  rw [← hnw]
                  have hbb : Below v11.heap.size v11 v14 := by rw [hnw]; exact (Below.refl _ _).alloc (Nat.le_refl _) _
                  have Zv14 : Hid (v14.heap[v11.heap.size]? = some (.cells #[.slice none 0 0, .int .i64 0, .int .i64 0] 28 (0, 0))) := hide' (by rw [hnw]; exact heap_alloc_new v11 _)
                  have LA : Hid (W0.heap.size ≤ v11.heap.size) := hide' Bv11.out.size
                  clear hnw
                  have Bv14 := hide' (Bv11.out.trans (hbb.mono Bv11.out.size))
                  have Cv14 := hide' (HL.out v14 Bv14.out)
                  have Nv14 := hide' (Nv11.out.below hbb)
                  have Tv14 := hide' (Tv11.out.below hbb (Nat.le_refl _))
                  clear hbb Bv11 Cv11 Nv11 Tv11
                  refine ⟨Cv14.out, ?_⟩
                  refine wpAnyX_one (i := 8) (by kernel_rfl) (wpOp_wanted rfl (by rfl) ?_)
                  go_simp
                  have hwv : Below w.heap.size w v14 := HW.out.2.2.trans (Bv14.out.mono HW.out.2.2.size)
                  refine (lrun_nots su HSU.out B nt E tv (.slice (some ⟨v0.heap.size, 0, none⟩) 6 6) p t q st v14 Nv14.out (HG.out.keep (hwv.mono hB)) (Nat.le_trans hB hwv.size) Tv14.out hq).mono ?_
                  rintro r v15 ⟨rs, ta, tn, tc, ck, rfl, hbb⟩
                  clear hwv
                  have Bv15 := hide' (Bv14.out.trans (hbb.mono Bv14.out.size))
                  have Cv15 := hide' (HL.out v15 Bv15.out)
                  have Zv15 := hide' ((hbb.block _ (lt_of_block Zv14.out)).trans Zv14.out)
                  clear hbb Bv14 Cv14 Nv14 Tv14 Zv14
                  refine ⟨Cv15.out, ?_⟩
                  (refine wpAnyX_take (i := 9) (v := ?_) Cv15.out rfl (by kernel_rfl) (by kernel_rfl) (by kernel_rfl) (by kernel_rfl) (fun _ _ _ h => h) (Or.inl ⟨by kernel_rfl, ?_⟩) ?_; rotate_left; (intro w hc; have k0 := hc.c; clear hc; go_simp; try with_reducible rfl))
                  (refine wpAnyX_take (i := 10) (v := ?_) Cv15.out rfl (by kernel_rfl) (by kernel_rfl) (by kernel_rfl) (by kernel_rfl) (fun _ _ _ h => h) (Or.inl ⟨by kernel_rfl, ?_⟩) ?_; rotate_left; (intro w hc; have k0 := hc.c; clear hc; go_simp; try with_reducible rfl))
                  (refine wpAnyX_take (i := 11) (v := ?_) Cv15.out rfl (by kernel_rfl) (by kernel_rfl) (by kernel_rfl) (by kernel_rfl) (fun _ _ _ h => h) (Or.inl ⟨by kernel_rfl, ?_⟩) ?_; rotate_left; (intro w hc; have k0 := hc.c; clear hc; go_simp; try with_reducible rfl))
                  (refine wpAnyX_take (i := 12) (v := ?_) Cv15.out rfl (by kernel_rfl) (by kernel_rfl) (by kernel_rfl) (by kernel_rfl) (fun _ _ _ h => h) (Or.inl ⟨by kernel_rfl, ?_⟩) ?_; rotate_left; (intro w hc; have k0 := hc.c; clear hc; go_simp; try with_reducible rfl))
                  (refine wpAnyX_take (i := 13) (v := ?_) Cv15.out rfl (by kernel_rfl) (by kernel_rfl) (by kernel_rfl) (by kernel_rfl) (fun _ _ _ h => h) (Or.inl ⟨by kernel_rfl, ?_⟩) ?_; rotate_left; (intro w hc; have k0 := hc.c; clear hc; go_simp; try with_reducible rfl))
                  go_simp
                  refine wpAnyX_one (i := 15) (by kernel_rfl) (wpOp_wanted rfl (by rfl) ?_)
                  go_simp
                  refine ⟨Cv15.out, ?_⟩
                  refine wpAnyX_one (i := 16) (by kernel_rfl) (wpOp_wanted rfl (by rfl) ?_)
                  go_simp
                  refine ⟨Cv15.out, ?_⟩
                  refine wpAnyX_one (i := 17) (by kernel_rfl) (wpOp_wanted rfl (by rfl) ?_)
                  go_simp
                  refine ⟨Cv15.out, ?_⟩
                  have y0 : v15.cell? ⟨v11.heap.size, 0, none⟩ = some (.slice none 0 0) := by rw [Lib.cell_of_heap Zv15.out]; rfl
                  have y1 : v15.cell? ⟨v11.heap.size, 1, none⟩ = some (.int .i64 0) := by rw [Lib.cell_of_heap Zv15.out]; rfl
                  have y2 : v15.cell? ⟨v11.heap.size, 2, none⟩ = some (.int .i64 0) := by rw [Lib.cell_of_heap Zv15.out]; rfl
                  have f0 := Lib.frozen_of_heap Zv15.out 0
                  have f1 := Lib.frozen_of_heap Zv15.out 1
                  have f2 := Lib.frozen_of_heap Zv15.out 2
                  refine wpAnyX_one (i := 18) (by kernel_rfl) (wpOp_wanted rfl (by rfl) ?_)
                  go_simp
                  refine wpAnyX_done (by kernel_rfl) ?_ _
                  have hfin : Below W0.heap.size W0 (((v15.setCell ⟨v11.heap.size, 0, none⟩ (.slice ta tn tc)).setCell ⟨v11.heap.size, 1, none⟩ (.int .i64 ck)).setCell ⟨v11.heap.size, 2, none⟩ (.int .i64 60000)) := ((Bv15.out.setCell (p := ⟨v11.heap.size, 0, none⟩) LA.out _).setCell (p := ⟨v11.heap.size, 1, none⟩) LA.out _).setCell (p := ⟨v11.heap.size, 2, none⟩) LA.out _
                  clear y0 y1 y2 f0 f1 f2
                  go_wp2_with fail
                  go_meet
                  exact ⟨rfl, hfin⟩
              · skip
                go_simp
                obtain ⟨v16, hnw⟩ : ∃ W, W = v10.alloc (.cells #[.slice none 0 0, .int .i64 0, .int .i64 0] 28) := ⟨_, rfl⟩
                rw [← hnw]
                have hbb : Below v10.heap.size v10 v16 := by rw [hnw]; exact (Below.refl _ _).alloc (Nat.le_refl _) _
                have Zv16 : Hid (v16.heap[v10.heap.size]? = some (.cells #[.slice none 0 0, .int .i64 0, .int .i64 0] 28 (0, 0))) := hide' (by rw [hnw]; exact heap_alloc_new v10 _)
                have LA : Hid (W0.heap.size ≤ v10.heap.size) := hide' Bv10.out.size
                clear hnw
                have Bv16 := hide' (Bv10.out.trans (hbb.mono Bv10.out.size))
                have Cv16 := hide' (HL.out v16 Bv16.out)
                have Tv16 := hide' (Tv10.out.below hbb (Nat.le_refl _))
                clear hbb Bv10 Cv10 Tv10
                refine ⟨Cv16.out, ?_⟩
                refine wpAnyX_one (i := 0) (by kernel_rfl) (wpOp_wanted rfl (by rfl) ?_)
                go_simp
                refine (tree_any v16).mono ?_
                rintro r v17 ⟨tv, nt, rfl, hnn, hbb⟩
                have Nv17 := hide' hnn
                clear hnn
                have Bv17 := hide' (Bv16.out.trans (hbb.mono Bv16.out.size))
                have Cv17 := hide' (HL.out v17 Bv17.out)
                have Tv17 := hide' (Tv16.out.below hbb (Nat.le_refl _))
                have Zv17 := hide' ((hbb.block _ (lt_of_block Zv16.out)).trans Zv16.out)
                clear hbb Bv16 Cv16 Tv16 Zv16
                refine ⟨Cv17.out, ?_⟩
                refine wpAnyX_one (i := 8) (by kernel_rfl) (wpOp_wanted rfl (by rfl) ?_)
                go_simp
                have hwv : Below w.heap.size w v17 := HW.out.2.2.trans (Bv17.out.mono HW.out.2.2.size)
                refine (lrun_nots su HSU.out B nt E tv (.slice (some ⟨v0.heap.size, 0, none⟩) 6 6) p t q st v17 Nv17.out (HG.out.keep (hwv.mono hB)) (Nat.le_trans hB hwv.size) Tv17.out hq).mono ?_
                rintro r v18 ⟨rs, ta, tn, tc, ck, rfl, hbb⟩
                clear hwv
                have Bv18 := hide' (Bv17.out.trans (hbb.mono Bv17.out.size))
                have Cv18 := hide' (HL.out v18 Bv18.out)
                have Zv18 := hide' ((hbb.block _ (lt_of_block Zv17.out)).trans Zv17.out)
                clear hbb Bv17 Cv17 Nv17 Tv17 Zv17
                refine ⟨Cv18.out, ?_⟩
                (refine wpAnyX_take (i := 9) (v := ?_) Cv18.out rfl (by kernel_rfl) (by kernel_rfl) (by kernel_rfl) (by kernel_rfl) (fun _ _ _ h => h) (Or.inl ⟨by kernel_rfl, ?_⟩) ?_; rotate_left; (intro w hc; have k0 := hc.c; clear hc; go_simp; try with_reducible rfl))
                (refine wpAnyX_take (i := 10) (v := ?_) Cv18.out rfl (by kernel_rfl) (by kernel_rfl) (by kernel_rfl) (by kernel_rfl) (fun _ _ _ h => h) (Or.inl ⟨by kernel_rfl, ?_⟩) ?_; rotate_left; (intro w hc; have k0 := hc.c; clear hc; go_simp; try with_reducible rfl))
                (refine wpAnyX_take (i := 11) (v := ?_) Cv18.out rfl (by kernel_rfl) (by kernel_rfl) (by kernel_rfl) (by kernel_rfl) (fun _ _ _ h => h) (Or.inl ⟨by kernel_rfl, ?_⟩) ?_; rotate_left; (intro w hc; have k0 := hc.c; clear hc; go_simp; try with_reducible rfl))
                (refine wpAnyX_take (i := 12) (v := ?_) Cv18.out rfl (by kernel_rfl) (by kernel_rfl) (by kernel_rfl) (by kernel_rfl) (fun _ _ _ h => h) (Or.inl ⟨by kernel_rfl, ?_⟩) ?_; rotate_left; (intro w hc; have k0 := hc.c; clear hc; go_simp; try with_reducible rfl))
                (refine wpAnyX_take (i := 13) (v := ?_) Cv18.out rfl (by kernel_rfl) (by kernel_rfl) (by kernel_rfl) (by kernel_rfl) (fun _ _ _ h => h) (Or.inl ⟨by kernel_rfl, ?_⟩) ?_; rotate_left; (intro w hc; have k0 := hc.c; clear hc; go_simp; try with_reducible rfl))
                go_simp
                refine wpAnyX_one (i := 15) (by kernel_rfl) (wpOp_wanted rfl (by rfl) ?_)
                go_simp
                refine ⟨Cv18.out, ?_⟩
                refine wpAnyX_one (i := 16) (by kernel_rfl) (wpOp_wanted rfl (by rfl) ?_)
                go_simp
                refine ⟨Cv18.out, ?_⟩
                refine wpAnyX_one (i := 17) (by kernel_rfl) (wpOp_wanted rfl (by rfl) ?_)
                go_simp
                refine ⟨Cv18.out, ?_⟩
                have y0 : v18.cell? ⟨v10.heap.size, 0, none⟩ = some (.slice none 0 0) := by rw [Lib.cell_of_heap Zv18.out]; rfl
                have y1 : v18.cell? ⟨v10.heap.size, 1, none⟩ = some (.int .i64 0) := by rw [Lib.cell_of_heap Zv18.out]; rfl
                have y2 : v18.cell? ⟨v10.heap.size, 2, none⟩ = some (.int .i64 0) := by rw [Lib.cell_of_heap Zv18.out]; rfl
                have f0 := Lib.frozen_of_heap Zv18.out 0
                have f1 := Lib.frozen_of_heap Zv18.out 1
                have f2 := Lib.frozen_of_heap Zv18.out 2
                refine wpAnyX_one (i := 18) (by kernel_rfl) (wpOp_wanted rfl (by rfl) ?_)
                go_simp
                refine wpAnyX_done (by kernel_rfl) ?_ _
                have hfin : Below W0.heap.size W0 (((v18.setCell ⟨v10.heap.size, 0, none⟩ (.slice ta tn tc)).setCell ⟨v10.heap.size, 1, none⟩ (.int .i64 ck)).setCell ⟨v10.heap.size, 2, none⟩ (.int .i64 60000)) := ((Bv18.out.setCell (p := ⟨v10.heap.size, 0, none⟩) LA.out _).setCell (p := ⟨v10.heap.size, 1, none⟩) LA.out _).setCell (p := ⟨v10.heap.size, 2, none⟩) LA.out _
                clear y0 y1 y2 f0 f1 f2
                go_wp2_with fail
                go_meet
                exact ⟨rfl, hfin⟩
            · skip
              go_simp
              obtain ⟨v19, hnw⟩ : ∃ W, W = v0.alloc (.cells #[.slice none 0 0, .int .i64 0, .int .i64 0] 28) := ⟨_, rfl⟩
              rw [← hnw]
              have hbb : Below v0.heap.size v0 v19 := by rw [hnw]; exact (Below.refl _ _).alloc (Nat.le_refl _) _
              have Zv19 : Hid (v19.heap[v0.heap.size]? = some (.cells #[.slice none 0 0, .int .i64 0, .int .i64 0] 28 (0, 0))) := hide' (by rw [hnw]; exact heap_alloc_new v0 _)
              have LA : Hid (W0.heap.size ≤ v0.heap.size) := hide' Bv0.out.size
              clear hnw
              have Bv19 := hide' (Bv0.out.trans (hbb.mono Bv0.out.size))
              have Cv19 := hide' (HL.out v19 Bv19.out)
              clear hbb Bv0 Cv0
              refine ⟨Cv19.out, ?_⟩
              refine wpAnyX_two (i := 0) (j := 7) (by kernel_rfl) (wpOp_wanted rfl (by rfl) ?_) (wpOp_wanted rfl (by rfl) ?_)
              · skip
                go_simp
                refine (tree_any v19).mono ?_
                rintro r v20 ⟨tv, nt, rfl, hnn, hbb⟩
                have Nv20 := hide' hnn
                clear hnn
                have Bv20 := hide' (Bv19.out.trans (hbb.mono Bv19.out.size))
                have Cv20 := hide' (HL.out v20 Bv20.out)
                have Zv20 := hide' ((hbb.block _ (lt_of_block Zv19.out)).trans Zv19.out)
                clear hbb Bv19 Cv19 Zv19
                refine ⟨Cv20.out, ?_⟩
                refine wpAnyX_one (i := 7) (by kernel_rfl) (wpOp_wanted rfl (by rfl) ?_)
                go_simp
                obtain ⟨v21, hnw⟩ : ∃ W, W = v20.alloc (.cells #[.string ⟨#[91]⟩, .string ⟨#[33]⟩, .string (mk p), .string (mk t), .string (mk q), .string ⟨#[93]⟩] 9) := ⟨_, rfl⟩
                rw [← hnw]
                have hbb : Below v20.heap.size v20 v21 := by rw [hnw]; exact (Below.refl _ _).alloc (Nat.le_refl _) _
                have Tv21 : Hid (Txs v21 (.slice (some ⟨v20.heap.size, 0, none⟩) 6 6) [[91], [33], p, t, q, [93]]) := hide' (by rw [hnw]; exact txs_new v20 [[91], [33], p, t, q, [93]])
                clear hnw
                have Bv21 := hide' (Bv20.out.trans (hbb.mono Bv20.out.size))
                have Cv21 := hide' (HL.out v21 Bv21.out)
                have Nv21 := hide' (Nv20.out.below hbb)
                have Zv21 := hide' ((hbb.block _ (lt_of_block Zv20.out)).trans Zv20.out)
                clear hbb Bv20 Cv20 Nv20 Zv20
                refine ⟨Cv21.out, ?_⟩
                refine wpAnyX_one (i := 8) (by kernel_rfl) (wpOp_wanted rfl (by rfl) ?_)
                go_simp
                have hwv : Below w.heap.size w v21 := HW.out.2.2.trans (Bv21.out.mono HW.out.2.2.size)
                refine (lrun_nots su HSU.out B nt E tv (.slice (some ⟨v20.heap.size, 0, none⟩) 6 6) p t q st v21 Nv21.out (HG.out.keep (hwv.mono hB)) (Nat.le_trans hB hwv.size) Tv21.out hq).mono ?_
                rintro r v22 ⟨rs, ta, tn, tc, ck, rfl, hbb⟩
                clear hwv
                have Bv22 := hide' (Bv21.out.trans (hbb.mono Bv21.out.size))
                have Cv22 := hide' (HL.out v22 Bv22.out)
                have Zv22 := hide' ((hbb.block _ (lt_of_block Zv21.out)).trans Zv21.out)
                clear hbb Bv21 Cv21 Nv21 Tv21 Zv21
                refine ⟨Cv22.out, ?_⟩
                (refine wpAnyX_take (i := 9) (v := ?_) Cv22.out rfl (by kernel_rfl) (by kernel_rfl) (by kernel_rfl) (by kernel_rfl) (fun _ _ _ h => h) (Or.inl ⟨by kernel_rfl, ?_⟩) ?_; rotate_left; (intro w hc; have k0 := hc.c; clear hc; go_simp; try with_reducible rfl))
                (refine wpAnyX_take (i := 10) (v := ?_) Cv22.out rfl (by kernel_rfl) (by kernel_rfl) (by kernel_rfl) (by kernel_rfl) (fun _ _ _ h => h) (Or.inl ⟨by kernel_rfl, ?_⟩) ?_; rotate_left; (intro w hc; have k0 := hc.c; clear hc; go_simp; try with_reducible rfl))
                (refine wpAnyX_take (i := 11) (v := ?_) Cv22.out rfl (by kernel_rfl) (by kernel_rfl) (by kernel_rfl) (by kernel_rfl) (fun _ _ _ h => h) (Or.inl ⟨by kernel_rfl, ?_⟩) ?_; rotate_left; (intro w hc; have k0 := hc.c; clear hc; go_simp; try with_reducible rfl))
                (refine wpAnyX_take (i := 12) (v := ?_) Cv22.out rfl (by kernel_rfl) (by kernel_rfl) (by kernel_rfl) (by kernel_rfl) (fun _ _ _ h => h) (Or.inl ⟨by kernel_rfl, ?_⟩) ?_; rotate_left; (intro w hc; have k0 := hc.c; clear hc; go_simp; try with_reducible rfl))
                (refine wpAnyX_take (i := 13) (v := ?_) Cv22.out rfl (by kernel_rfl) (by kernel_rfl) (by kernel_rfl) (by kernel_rfl) (fun _ _ _ h => h) (Or.inl ⟨by kernel_rfl, ?_⟩) ?_; rotate_left; (intro w hc; have k0 := hc.c; clear hc; go_simp; try with_reducible rfl))
                go_simp
                refine wpAnyX_one (i := 15) (by kernel_rfl) (wpOp_wanted rfl (by rfl) ?_)
                go_simp
                refine ⟨Cv22.out, ?_⟩
                refine wpAnyX_one (i := 16) (by kernel_rfl) (wpOp_wanted rfl (by rfl) ?_)
                go_simp
                refine ⟨Cv22.out, ?_⟩
                refine wpAnyX_one (i := 17) (by kernel_rfl) (wpOp_wanted rfl (by rfl) ?_)
                go_simp
                refine ⟨Cv22.out, ?_⟩
                have y0 : v22.cell? ⟨v0.heap.size, 0, none⟩ = some (.slice none 0 0) := by rw [Lib.cell_of_heap Zv22.out]; rfl
                have y1 : v22.cell? ⟨v0.heap.size, 1, none⟩ = some (.int .i64 0) := by rw [Lib.cell_of_heap Zv22.out]; rfl
                have y2 : v22.cell? ⟨v0.heap.size, 2, none⟩ = some (.int .i64 0) := by rw [Lib.cell_of_heap Zv22.out]; rfl
                have f0 := Lib.frozen_of_heap Zv22.out 0
                have f1 := Lib.frozen_of_heap Zv22.out 1
                have f2 := Lib.frozen_of_heap Zv22.out 2
                refine wpAnyX_one (i := 18) (by kernel_rfl) (wpOp_wanted rfl (by rfl) ?_)
                go_simp
                refine wpAnyX_done (by kernel_rfl) ?_ _
                have hfin : Below W0.heap.size W0 (((v22.setCell ⟨v0.heap.size, 0, none⟩ (.slice ta tn tc)).setCell ⟨v0.heap.size, 1, none⟩ (.int .i64 ck)).setCell ⟨v0.heap.size, 2, none⟩ (.int .i64 60000)) := ((Bv22.out.setCell (p := ⟨v0.heap.size, 0, none⟩) LA.out _).setCell (p := ⟨v0.heap.size, 1, none⟩) LA.out _).setCell (p := ⟨v0.heap.size, 2, none⟩) LA.out _
                clear y0 y1 y2 f0 f1 f2
                go_wp2_with fail
                go_meet
                exact ⟨rfl, hfin⟩
              · skip
                go_simp
                obtain ⟨v23, hnw⟩ : ∃ W, W = v19.alloc (.cells #[.string ⟨#[91]⟩, .string ⟨#[33]⟩, .string (mk p), .string (mk t), .string (mk q), .string ⟨#[93]⟩] 9) := ⟨_, rfl⟩
                rw [← hnw]
                have hbb : Below v19.heap.size v19 v23 := by rw [hnw]; exact (Below.refl _ _).alloc (Nat.le_refl _) _
                have Tv23 : Hid (Txs v23 (.slice (some ⟨v19.heap.size, 0, none⟩) 6 6) [[91], [33], p, t, q, [93]]) := hide' (by rw [hnw]; exact txs_new v19 [[91], [33], p, t, q, [93]])
                clear hnw
                have Bv23 := hide' (Bv19.out.trans (hbb.mono Bv19.out.size))
                have Cv23 := hide' (HL.out v23 Bv23.out)
                have Zv23 := hide' ((hbb.block _ (lt_of_block Zv19.out)).trans Zv19.out)
                clear hbb Bv19 Cv19 Zv19
                refine ⟨Cv23.out, ?_⟩
                refine wpAnyX_one (i := 0) (by kernel_rfl) (wpOp_wanted rfl (by rfl) ?_)
                go_simp
                refine (tree_any v23).mono ?_
                rintro r v24 ⟨tv, nt, rfl, hnn, hbb⟩
                have Nv24 := hide' hnn
                clear hnn
                have Bv24 := hide' (Bv23.out.trans (hbb.mono Bv23.out.size))
                have Cv24 := hide' (HL.out v24 Bv24.out)
                have Tv24 := hide' (Tv23.out.below hbb (Nat.le_refl _))
                have Zv24 := hide' ((hbb.block _ (lt_of_block Zv23.out)).trans Zv23.out)
                clear hbb Bv23 Cv23 Tv23 Zv23
                refine ⟨Cv24.out, ?_⟩
                refine wpAnyX_one (i := 8) (by kernel_rfl) (wpOp_wanted rfl (by rfl) ?_)
                go_simp
                have hwv : Below w.heap.size w v24 := HW.out.2.2.trans (Bv24.out.mono HW.out.2.2.size)
                refine (lrun_nots su HSU.out B nt E tv (.slice (some ⟨v19.heap.size, 0, none⟩) 6 6) p t q st v24 Nv24.out (HG.out.keep (hwv.mono hB)) (Nat.le_trans hB hwv.size) Tv24.out hq).mono ?_
                rintro r v25 ⟨rs, ta, tn, tc, ck, rfl, hbb⟩
                clear hwv
                have Bv25 := hide' (Bv24.out.trans (hbb.mono Bv24.out.size))
                have Cv25 := hide' (HL.out v25 Bv25.out)
                have Zv25 := hide' ((hbb.block _ (lt_of_block Zv24.out)).trans Zv24.out)
                clear hbb Bv24 Cv24 Nv24 Tv24 Zv24
                refine ⟨Cv25.out, ?_⟩
                (refine wpAnyX_take (i := 9) (v := ?_) Cv25.out rfl (by kernel_rfl) (by kernel_rfl) (by kernel_rfl) (by kernel_rfl) (fun _ _ _ h => h) (Or.inl ⟨by kernel_rfl, ?_⟩) ?_; rotate_left; (intro w hc; have k0 := hc.c; clear hc; go_simp; try with_reducible rfl))
                (refine wpAnyX_take (i := 10) (v := ?_) Cv25.out rfl (by kernel_rfl) (by kernel_rfl) (by kernel_rfl) (by kernel_rfl) (fun _ _ _ h => h) (Or.inl ⟨by kernel_rfl, ?_⟩) ?_; rotate_left; (intro w hc; have k0 := hc.c; clear hc; go_simp; try with_reducible rfl))
                (refine wpAnyX_take (i := 11) (v := ?_) Cv25.out rfl (by kernel_rfl) (by kernel_rfl) (by kernel_rfl) (by kernel_rfl) (fun _ _ _ h => h) (Or.inl ⟨by kernel_rfl, ?_⟩) ?_; rotate_left; (intro w hc; have k0 := hc.c; clear hc; go_simp; try with_reducible rfl))
                (refine wpAnyX_take (i := 12) (v := ?_) Cv25.out rfl (by kernel_rfl) (by kernel_rfl) (by kernel_rfl) (by kernel_rfl) (fun _ _ _ h => h) (Or.inl ⟨by kernel_rfl, ?_⟩) ?_; rotate_left; (intro w hc; have k0 := hc.c; clear hc; go_simp; try with_reducible rfl))
                (refine wpAnyX_take (i := 13) (v := ?_) Cv25.out rfl (by kernel_rfl) (by kernel_rfl) (by kernel_rfl) (by kernel_rfl) (fun _ _ _ h => h) (Or.inl ⟨by kernel_rfl, ?_⟩) ?_; rotate_left; (intro w hc; have k0 := hc.c; clear hc; go_simp; try with_reducible rfl))
                go_simp
                refine wpAnyX_one (i := 15) (by kernel_rfl) (wpOp_wanted rfl (by rfl) ?_)
                go_simp
                refine ⟨Cv25.out, ?_⟩
                refine wpAnyX_one (i := 16) (by kernel_rfl) (wpOp_wanted rfl (by rfl) ?_)
                go_simp
                refine ⟨Cv25.out, ?_⟩
                refine wpAnyX_one (i := 17) (by kernel_rfl) (wpOp_wanted rfl (by rfl) ?_)
                go_simp
                refine ⟨Cv25.out, ?_⟩
                have y0 : v25.cell? ⟨v0.heap.size, 0, none⟩ = some (.slice none 0 0) := by rw [Lib.cell_of_heap Zv25.out]; rfl
                have y1 : v25.cell? ⟨v0.heap.size, 1, none⟩ = some (.int .i64 0) := by rw [Lib.cell_of_heap Zv25.out]; rfl
                have y2 : v25.cell? ⟨v0.heap.size, 2, none⟩ = some (.int .i64 0) := by rw [Lib.cell_of_heap Zv25.out]; rfl
                have f0 := Lib.frozen_of_heap Zv25.out 0
                have f1 := Lib.frozen_of_heap Zv25.out 1
                have f2 := Lib.frozen_of_heap Zv25.out 2
                refine wpAnyX_one (i := 18) (by kernel_rfl) (wpOp_wanted rfl (by rfl) ?_)
                go_simp
                refine wpAnyX_done (by kernel_rfl) ?_ _
                have hfin : Below W0.heap.size W0 (((v25.setCell ⟨v0.heap.size, 0, none⟩ (.slice ta tn tc)).setCell ⟨v0.heap.size, 1, none⟩ (.int .i64 ck)).setCell ⟨v0.heap.size, 2, none⟩ (.int .i64 60000)) := ((Bv25.out.setCell (p := ⟨v0.heap.size, 0, none⟩) LA.out _).setCell (p := ⟨v0.heap.size, 1, none⟩) LA.out _).setCell (p := ⟨v0.heap.size, 2, none⟩) LA.out _
                clear y0 y1 y2 f0 f1 f2
                go_wp2_with fail
                go_meet
                exact ⟨rfl, hfin⟩
          case rest =>
            obtain ⟨rfl, hbd⟩ := hcut
            have y2 := HL2.out _ hbd
            cases wb
            · obtain rfl : st = 1 := HST.out.symm
              obtain rfl : su = 0 := HSU.out.symm
              clear hq HST HSU HL HL2 HG z1 z2
              go_wp2
              go_roundw
              · exact ⟨n + 1, by omega, by simp, hbd⟩
              · show 6 - ((n : Int) + 1).toNat < 6 - (n : Int).toNat
                omega
            · obtain rfl : st = 0 := HST.out.symm
              obtain rfl : su = 1 := HSU.out.symm
              clear hq HST HSU HL HL2 HG z1 z2
              go_wp2
              go_roundw
              · exact ⟨n + 1, by omega, by simp, hbd⟩
              · show 6 - ((n : Int) + 1).toNat < 6 - (n : Int).toNat
                omega
      · obtain rfl : n = 6 := by omega
        clear HS
        have hBr : Below w.heap.size w wr := HW.out.2.2.trans (hbr.mono HW.out.2.2.size)
        have HBr := hide' hBr
        clear hBr hbr HW
        have qe : ∀ (cv : Value) (W : World), Calls Tryz.prog 158 #[cv, .string (mk x), .string (mk [61]), .string (mk y)] W fun r w' => r = .returned (.tuple #[.int .i64 (if x = y then 0 else 1), .bool true]) ∧ Below W.heap.size W w' := fun cv W => (ofTwo_eq cv x y W).mono fun r w' h => ⟨h.1, by rw [h.2]; exact Below.refl _ _⟩
        have qf : ∀ (cv : Value) (W : World), Calls Tryz.prog 158 #[cv, .string (mk x), .string (mk [33, 61]), .string (mk y)] W fun r w' => r = .returned (.tuple #[.int .i64 (if x = y then 1 else 0), .bool true]) ∧ Below W.heap.size W w' := fun cv W => (ofTwo_ne cv x y W).mono fun r w' h => ⟨h.1, by rw [h.2]; exact Below.refl _ _⟩
        generalize he : (if x = y then (0 : Int) else 1) = se at qe
        generalize hf : (if x = y then (1 : Int) else 0) = sf at qf
        have HE := hide' he
        have HF := hide' hf
        clear he hf
        go_wp2_with fail
        refine (tree_any _).mono ?_
        rintro r w4 ⟨tv4, n4, rfl, hn4, hb4⟩
        obtain ⟨W5, hW5⟩ : ∃ W5, W5 = w4.alloc (.cells #[.string ⟨#[116, 101, 115, 116]⟩, .string (mk x), .string ⟨#[61]⟩, .string (mk y)] 9) := ⟨_, rfl⟩
        have hb5 : Below w4.heap.size w4 W5 := by rw [hW5]; exact (Below.refl _ _).alloc (Nat.le_refl _) _
        have hB4 : Below w.heap.size w w4 := HBr.out.trans (hb4.mono HBr.out.size)
        have hB5 : Below w.heap.size w W5 := hB4.trans (hb5.mono hB4.size)
        have hv5 : Txs W5 (.slice (some ⟨w4.heap.size, 0, none⟩) 4 4) [[116, 101, 115, 116], x, [61], y] := by rw [hW5]; exact txs_new w4 [[116, 101, 115, 116], x, [61], y]
        have q := lrun_test B n4 E tv4 (.slice (some ⟨w4.heap.size, 0, none⟩) 4 4) x [61] y se W5 (hn4.below hb5) (HG.out.keep (hB5.mono hB)) (Nat.le_trans hB hB5.size) hv5 qe
        have HQ := hide' q
        have HB5 := hide' hB5
        clear q hb5 hB4 hB5 hv5 hn4 hb4 HBr
        go_wp2_with fail
        rw [← hW5]
        refine HQ.out.mono ?_
        rintro r w6 ⟨s6, ta6, tn6, tc6, ck6, rfl, hb6⟩
        clear HQ
        have hB6 : Below w.heap.size w w6 := HB5.out.trans (hb6.mono HB5.out.size)
        have HBr := hide' hB6
        clear hB6 hb6 HB5 hW5
        go_wp2_with fail
        refine (tree_any _).mono ?_
        rintro r w4 ⟨tv4, n4, rfl, hn4, hb4⟩
        obtain ⟨W5, hW5⟩ : ∃ W5, W5 = w4.alloc (.cells #[.string ⟨#[116, 101, 115, 116]⟩, .string (mk x), .string ⟨#[33, 61]⟩, .string (mk y)] 9) := ⟨_, rfl⟩
        have hb5 : Below w4.heap.size w4 W5 := by rw [hW5]; exact (Below.refl _ _).alloc (Nat.le_refl _) _
        have hB4 : Below w.heap.size w w4 := (HBr.out.alloc HBr.out.size _).trans (hb4.mono (by have := HBr.out.size; simp; omega))
        have hB5 : Below w.heap.size w W5 := hB4.trans (hb5.mono hB4.size)
        have hv5 : Txs W5 (.slice (some ⟨w4.heap.size, 0, none⟩) 4 4) [[116, 101, 115, 116], x, [33, 61], y] := by rw [hW5]; exact txs_new w4 [[116, 101, 115, 116], x, [33, 61], y]
        have q := lrun_test B n4 E tv4 (.slice (some ⟨w4.heap.size, 0, none⟩) 4 4) x [33, 61] y sf W5 (hn4.below hb5) (HG.out.keep (hB5.mono hB)) (Nat.le_trans hB hB5.size) hv5 qf
        have HQ := hide' q
        have HB5 := hide' hB5
        clear q hb5 hB4 hB5 hv5 hn4 hb4 HBr
        go_wp2_with fail
        rw [← hW5]
        refine HQ.out.mono ?_
        rintro r w6 ⟨s6, ta6, tn6, tc6, ck6, rfl, hb6⟩
        clear HQ
        have hB6 : Below w.heap.size w w6 := HB5.out.trans (hb6.mono HB5.out.size)
        have HBr := hide' hB6
        clear hB6 hb6 HB5 hW5
        have hxe : (x == y) = decide (x = y) := by by_cases h : x = y <;> simp [h]
        by_cases hxy : x = y
        · rw [decide_eq_true hxy] at hxe
          obtain rfl : se = 0 := by rw [← HE.out, if_pos hxy]
          obtain rfl : sf = 1 := by rw [← HF.out, if_pos hxy]
          clear HE HF qe qf hxy
          go_wp2
          go_ret
          exact ⟨rfl, HBr.out.alloc HBr.out.size _⟩
        · rw [decide_eq_false hxy] at hxe
          obtain rfl : se = 1 := by rw [← HE.out, if_neg hxy]
          obtain rfl : sf = 0 := by rw [← HF.out, if_neg hxy]
          clear HE HF qe qf hxy
          go_wp2
          go_ret
          exact ⟨rfl, HBr.out.alloc HBr.out.size _⟩
end Go.Proofs.YtbfchadcpokjoaaGreatDoor
