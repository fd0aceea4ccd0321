/- Names, and for. -/
import Derived.Test.YtcemlhfodpelaaaGreatDoorZx
import Derived.Test.YtcemlhfodpelaaaGreatDoorZa
namespace Go.Proofs.YtcemlhfodpelaaaGreatDoor
open Go.RowKit

set_option maxHeartbeats 2000000 in
theorem name_step {x : Cx} (hxl : ∀ t ∈ x.tk, t.2.length ≤ 100000) (w : World) (s : PS) (h : PsAt w x s) : Calls Tryz.prog 56 #[ptr x.A] w (PrR x w (nameP s) WordV) := by
  by_cases hk : kd s.ts = 1
  · have q := word_yes h hk
    have hlen : (tx s.ts).length ≤ 100000 := by
      obtain ⟨p, hp⟩ := h
      exact hxl _ (List.mem_of_getElem? hp.tok)
    have q2 := fun w => name_any (mk (tx s.ts)) w (by rw [mk_size]; exact hlen)
    simp only [tl_mk (tx s.ts)] at q2
    obtain ⟨nb, hnb⟩ : ∃ nb, nameB (tx s.ts) = nb := ⟨_, rfl⟩
    simp only [hnb] at q2
    obtain ⟨R, hR⟩ : ∃ R, nameP s = R := ⟨_, rfl⟩
    rw [hR]
    unfold nameP at hR
    rw [hnb] at hR
    have HR := hide' (And.intro hR hk)
    clear h hk hlen hnb hR
    go_enter Tryz.func56, Tryz.ntmps56
    go_wp2_with fail
    refine q.mono ?_
    rintro e w1 ⟨rfl, h1, g1⟩
    clear q
    have HK := hide' (And.intro h1 g1)
    clear h1 g1
    dsimp only
    go_wp2_with fail
    refine (q2 _).mono ?_
    rintro e w2 ⟨rfl, rfl⟩
    clear q2
    dsimp only
    cases nb with
    | true =>
      obtain rfl : R = .ok (tx s.ts) s.nx := by rw [← HR.out.1, if_pos ⟨HR.out.2, rfl⟩]
      go_wp2
      go_ret
      exact ⟨HK.out.2, HK.out.1, _, rfl, rfl⟩
    | false =>
      obtain rfl : R = .bad := by rw [← HR.out.1, if_neg (by simp)]
      have q := giveUp_any HK.out.1 31
      go_wp2_with fail
      refine q.mono ?_
      rintro e w2 ⟨hG, b, p, rfl, hb⟩
      exact ⟨rfl, HK.out.2.trans hG, b, p, rfl, hb⟩
  · have q := word_no h hk
    obtain ⟨R, hR⟩ : ∃ R, nameP s = R := ⟨_, rfl⟩
    rw [hR]
    obtain rfl : R = .bad := by rw [← hR, nameP, if_neg (fun e => hk e.1)]
    clear h hk hR
    go_enter Tryz.func56, Tryz.ntmps56
    go_wp2_with fail
    refine q.mono ?_
    rintro e w1 ⟨g1, b, p, rfl, hb⟩
    exact ⟨rfl, g1, b, p, rfl, hb⟩
def sepO (s : PS) : PS := match sepP s with
  | some s3 => s3
  | none => s
def forK (n : Nat) (ws : List Bs) (s2 : PS) : PR Cd := andT (doP n (sepO s2)) fun c s4 => .ok (.mk 8 false [] ws [] [c] []) s4
theorem RowS.monoO {w : World} {S S' : Nat → Prop} {T sz n : Nat} {v : Value} {xs : List Value} (h : RowS w S T sz v n xs) (hS : ∀ g, v.ownBlock = some g → S g → S' g) : RowS w S' T sz v n xs := by
  obtain ⟨h1, h2⟩ := h
  refine ⟨h1, ?_⟩
  rcases h2 with h2 | ⟨g, cap, cur, rfl, h3, h5⟩
  · exact .inl h2
  · exact .inr ⟨g, cap, cur, rfl, hS g rfl h3, h5⟩
theorem cd_for {w : World} {S : Nat → Prop} {wv kv : Value} {ws : List Bs} {ks : List Cd} {kc : List (List Value)} (h2 : StrsS w S wv ws) (h : KidsS w S kv kc ks) : CdAt w S [.int .i64 8, .bool false, .slice none 0 0, wv, .slice none 0 0, kv, .slice none 0 0] (.mk 8 false [] ws [] ks []) :=
  .intro 8 false [] ws [] ks [] _ _ _ kv _ kc [] (RowS.nil _ _ _ _) h2 (RowS.nil _ _ _ _) h.row h.len (fun i cs c h1 h2 => (h.kid i cs c h1 h2).mono fun _ h3 _ => h3.1) (RowS.nil _ _ _ _) rfl (fun i a b h1 => by simp at h1) (fun i a b h1 => by simp at h1)
theorem sep_any {w : World} {x : Cx} {s : PS} (h : PsAt w x s) : ∃ b, Calls Tryz.prog 60 #[ptr x.A] w fun e w' => e = .returned (.bool b) ∧ PsAt w' x (sepO s) ∧ Gr x w w' := by
  unfold sepO
  cases hs : sepP s with
  | none => exact ⟨false, sep_none h hs⟩
  | some s3 => exact ⟨true, sep_some h hs⟩
set_option maxRecDepth 100000 in
set_option maxHeartbeats 8000000 in
theorem for_step {x : Cx} {n : Nat} (hn : n ≤ 1000000) (hxl : ∀ t ∈ x.tk, t.2.length ≤ 100000) (hD : ∀ w s, PsAt w x s → doP n s ≠ .out → Calls Tryz.prog 55 #[ptr x.A] w (PrR x w (doP n s) (CmdV w.heap.size))) (w : World) (s : PS) (h : PsAt w x s) (hne : formP (n + 1) .fr s ≠ .out) : Calls Tryz.prog 35 #[ptr x.A] w (PrR x w (formP (n + 1) .fr s) (CmdV w.heap.size)) := by
  have hAl := h.lt
  obtain ⟨W, hW, h0, g0, z0, s0⟩ := res_laid h
  have HW := hide' hW
  obtain ⟨R, hR⟩ : ∃ R, formP (n + 1) .fr s = R := ⟨_, rfl⟩
  rw [hR] at hne ⊢
  rw [formP] at hR
  have hR : (andT (nameP s) fun nm s1 => andT (if tx s1.sk.ts = [105, 110] then wordsP n [nm] s1.sk.nx else .ok [nm] s1.sk) (forK n)) = R := hR
  have HR := hide' (And.intro hR hne)
  have q := name_step hxl W s h0
  have HH := hide' (And.intro g0 (And.intro z0 s0))
  clear hW h0 g0 z0 s0 h hR hne hxl
  go_enter Tryz.func35, Tryz.ntmps35
  go_wp2_with fail
  rw [← HW.out]
  refine q.mono ?_
  rintro e w1 hr
  clear q
  obtain ⟨g0, z0, s0⟩ := HH.out
  cases hp : nameP s with
  | out =>
    unfold nameP at hp
    split at hp <;> cases hp
  | bad =>
    rw [hp] at hr
    obtain rfl : R = .bad := by rw [← HR.out.1, hp]; rfl
    obtain ⟨g3, b, p, rfl, hb⟩ := hr
    exact ⟨rfl, g0.trans g3, b, p, rfl, hb⟩
  | ok nm s1 =>
    rw [hp] at hr
    have HR2 := hide' (show andT (if tx s1.sk.ts = [105, 110] then wordsP n [nm] s1.sk.nx else .ok [nm] s1.sk) (forK n) = R by rw [← HR.out.1, hp]; rfl)
    obtain ⟨g1, h1, v, rfl, hv⟩ := hr
    obtain rfl : v = .string (mk nm) := hv
    have z1 := g1.blk (by omega) z0
    have hs1 := g1.size
    obtain ⟨w2, hw2⟩ : ∃ w2, w2 = (w1.alloc (.cells #[.string (mk nm)] 9)).alloc (.cells #[.int .i64 8, .bool false, .slice none 0 0, .slice (some ⟨w1.heap.size, 0, none⟩) 1 1, .slice none 0 0, .slice none 0 0, .slice none 0 0] 28) := ⟨_, rfl⟩
    have hsA : (w1.alloc (.cells #[.string (mk nm)] 9)).heap.size = w1.heap.size + 1 := by simp
    have hb1 : Below w1.heap.size w1 (w1.alloc (.cells #[.string (mk nm)] 9)) := (Below.refl _ _).alloc (Nat.le_refl _) _
    have hb2' : Below (w1.alloc (.cells #[.string (mk nm)] 9)).heap.size (w1.alloc (.cells #[.string (mk nm)] 9)) w2 := by rw [hw2]; exact (Below.refl _ _).alloc (Nat.le_refl _) _
    have hb2 : Below w1.heap.size w1 w2 := hb1.trans (hb2'.mono (by simp))
    have zr : w2.heap[w1.heap.size]? = some (.cells #[.string (mk nm)] 9 (0, 0)) := (hb2'.block _ (by omega)).trans (heap_alloc_new w1 _)
    have zb : w2.heap[w1.heap.size + 1]? = some (.cells #[.int .i64 8, .bool false, .slice none 0 0, .slice (some ⟨w1.heap.size, 0, none⟩) 1 1, .slice none 0 0, .slice none 0 0, .slice none 0 0] 28 (0, 0)) := by
      rw [hw2]
      have := heap_alloc_new (w1.alloc (.cells #[.string (mk nm)] 9)) (.cells #[.int .i64 8, .bool false, .slice none 0 0, .slice (some ⟨w1.heap.size, 0, none⟩) 1 1, .slice none 0 0, .slice none 0 0, .slice none 0 0] 28)
      rwa [hsA] at this
    have hR0 : RowS w2 (KS w (w1.heap.size + 1)) 9 1 (.slice (some ⟨w1.heap.size, 0, none⟩) 1 1) 1 ([nm].map fun x => Value.string (mk x)) := ⟨rfl, .inr ⟨w1.heap.size, 1, _, rfl, ⟨by omega, by omega⟩, zr, Nat.le_refl _, by unfold maxLen; omega, rfl, rfl, by omega⟩⟩
    have hB0 : BoxAt x w w2 s1 (w1.heap.size + 1) #[.int .i64 8, .bool false, .slice none 0 0, .slice (some ⟨w1.heap.size, 0, none⟩) 1 1, .slice none 0 0, .slice none 0 0, .slice none 0 0] := ⟨h1.below hb2, (g0.trans g1).trans (Gr.of_below hb2), (hb2.block _ (lt_of_block z1)).trans z1, zb, by omega⟩
    obtain ⟨wa, wn, wc, hB, hRo, hwn⟩ : ∃ wa wn wc, BoxAt x w w2 s1 (w1.heap.size + 1) #[.int .i64 8, .bool false, .slice none 0 0, .slice wa wn wc, .slice none 0 0, .slice none 0 0, .slice none 0 0] ∧ RowS w2 (KS w (w1.heap.size + 1)) 9 1 (.slice wa wn wc) wn ([nm].map fun x => Value.string (mk x)) ∧ wn = [nm].length := ⟨_, 1, 1, hB0, hR0, rfl⟩
    have HB := hide' hB
    have HRo := hide' hRo
    have HWn := hide' hwn
    obtain ⟨bx, hbx⟩ : ∃ bx, bx = w1.heap.size + 1 := ⟨_, rfl⟩
    have hbl : w.heap.size < bx := by omega
    have HW2 := hide' hw2
    have q := skip_any hB.ps
    clear hsA hb1 hb2' hb2 hw2 h1 g1 g0 z0 z1 HH zb zr hp hB hRo hwn hB0 hR0
    rw [← hbx] at HB HRo
    dsimp only
    go_wp2_with fail
    rw [← HW2.out, ← hbx]
    clear hbx
    refine q.mono ?_
    rintro e w3 ⟨rfl, h1, g1⟩
    clear q
    have hB := HB.out.call g1 h1 hAl
    have hRo : RowS w3 (KS w bx) 9 1 (.slice wa wn wc) wn ([nm].map fun x => Value.string (mk x)) := HRo.out.kept fun g' hg' hl => g1.block g' hl fun e => by have := Option.some.inj e; have := hg'.1; omega
    clear HB HRo h1 g1
    by_cases hin : tx s1.sk.ts = [105, 110]
    · have HR3 := hide' (show andT (wordsP n [nm] s1.sk.nx) (forK n) = R by rw [← HR2.out, if_pos hin])
      have q := pass_yes hB.ps [105, 110] (by simp) hin
      have HB := hide' hB
      have HRo := hide' hRo
      clear hB hRo hin HR2
      dsimp only
      go_wp2_with fail
      refine q.mono ?_
      rintro e w4 ⟨rfl, h1, g1⟩
      clear q
      have hB := HB.out.call g1 h1 hAl
      have hRo : RowS w4 (KS w bx) 9 1 (.slice wa wn wc) wn ([nm].map fun x => Value.string (mk x)) := HRo.out.kept fun g' hg' hl => g1.block g' hl fun e => by have := Option.some.inj e; have := hg'.1; omega
      have HBR := hide' (And.intro hB hRo)
      clear HB HRo h1 g1 hB hRo
      dsimp only
      go_wp2_with fail
      go_loopg [] n (fun gk wr => gk ≤ n ∧ ∃ s' wa wn wc ws, BoxAt x w wr s' bx #[.int .i64 8, .bool false, .slice none 0 0, .slice wa wn wc, .slice none 0 0, .slice none 0 0, .slice none 0 0] ∧ RowS wr (KS w bx) 9 1 (.slice wa wn wc) wn (ws.map fun x => Value.string (mk x)) ∧ wn = ws.length ∧ wn + gk ≤ n + 1 ∧ andT (wordsP gk ws s') (forK n) = R)
      case atStart => exact ⟨Nat.le_refl _, _, wa, wn, wc, [nm], HBR.out.1, HBR.out.2, HWn.out, by have h9 := HWn.out; simp at h9; omega, HR3.out⟩
      clear HBR HWn HR3 wa wn wc
      obtain ⟨hgk, s4, wa, wn, wc, ws, hB, hRo, hwn, hbd, hRL⟩ := hrel
      have HWn := hide' hwn
      have hBs := lt_of_block hB.box
      clear hwn
      cases gk with
      | zero => exact absurd (by rw [← hRL]; rfl) HR.out.2
      | succ gk' =>
      rw [wordsP] at hRL
      have q := atWord_any hB.ps
      by_cases hk : kd s4.ts = 1
      · rw [decide_eq_true hk] at q
        rw [if_pos hk] at hRL
        have HRL := hide' (And.intro hRL hk)
        have HB0 := hide' (And.intro hB hRo)
        clear hB hRo hk hRL
        go_wp2_with fail
        refine q.mono ?_
        rintro e w5 ⟨rfl, m, hw5⟩
        clear q
        have hB : BoxAt x w w5 s4 bx #[.int .i64 8, .bool false, .slice none 0 0, .slice wa wn wc, .slice none 0 0, .slice none 0 0, .slice none 0 0] := by rw [hw5]; exact HB0.out.1.below (below_drewn m)
        have hRo : RowS w5 (KS w bx) 9 1 (.slice wa wn wc) wn (ws.map fun x => Value.string (mk x)) := by rw [hw5]; exact HB0.out.2.kept fun _ _ _ => rfl
        clear hw5 HB0
        have HNo := hide' (show wordP s4 ≠ .out by unfold wordP; rw [if_pos HRL.out.2]; simp)
        have q := word_step w5.drew s4 hB.ps.drew
        have hlW : bx < w5.drew.heap.size := lt_of_block hB.box
        have HB := hide' hB
        have HRo := hide' hRo
        clear hB hRo
        dsimp only
        go_upto_region 5 with fail
        refine wp_region_classX [7] (C := BxC bx 3 (.slice wa wn wc)) (by kernel_rfl) ?_
        have hC : BxC bx 3 (.slice wa wn wc) w5.drew := ⟨by rw [show w5.drew.cell? ⟨bx, 3, none⟩ = w5.cell? ⟨bx, 3, none⟩ from rfl, Lib.cell_of_heap HB.out.box]; rfl⟩
        (refine wpAnyX_take (i := 0) (v := ?_) hC rfl (by kernel_rfl) (by kernel_rfl) (by kernel_rfl) (by kernel_rfl) (fun _ _ _ h => h) (Or.inl ⟨by kernel_rfl, ?_⟩) ?_; rotate_left; (intro w hc; have k3 := hc.c; clear hc; go_simp; try with_reducible rfl))
        (refine wpAnyX_take (i := 1) (v := ?_) hC rfl (by kernel_rfl) (by kernel_rfl) (by kernel_rfl) (by kernel_rfl) (fun _ _ _ h => h) (Or.inl ⟨by kernel_rfl, ?_⟩) ?_; rotate_left; (intro w hc; have k3 := hc.c; clear hc; go_simp; try with_reducible rfl))
        (refine wpAnyX_take (i := 2) (v := ?_) hC rfl (by kernel_rfl) (by kernel_rfl) (by kernel_rfl) (by kernel_rfl) (fun _ _ _ h => h) (Or.inl ⟨by kernel_rfl, ?_⟩) ?_; rotate_left; (intro w hc; have k3 := hc.c; clear hc; go_simp; try with_reducible rfl))
        refine wpAnyX_one (i := 3) (by kernel_rfl) (wpOp_wanted rfl (by rfl) ?_)
        go_simp
        refine q.mono ?_
        rintro e w3 hr
        clear q hC
        cases hp : wordP s4 with
        | out => exact absurd hp HNo.out
        | bad =>
          rw [hp] at hr
          exact absurd hp (by unfold wordP; rw [if_pos HRL.out.2]; simp)
        | ok rr s9 =>
          rw [hp] at hr
          have HRN := hide' (show andT (wordsP gk' (ws ++ [rr]) s9) (forK n) = R by
            have hp' := hp
            unfold wordP at hp'
            rw [if_pos HRL.out.2] at hp'
            cases hp'
            exact HRL.out.1)
          obtain ⟨g3, h3, v, rfl, hv⟩ := hr
          obtain rfl : v = .string (mk rr) := hv
          have hB3 := HB.out.drew.call g3 h3 hAl
          have hs3 := g3.size
          have hb4 : Below w3.heap.size w3 (w3.alloc (.cells #[.string (mk rr)] 9)) := (Below.refl _ _).alloc (Nat.le_refl _) _
          have hB4 := hB3.below hb4
          have hC3 : BxC bx 3 (.slice wa wn wc) w3 := ⟨by rw [Lib.cell_of_heap hB3.box]; rfl⟩
          have hC4 : BxC bx 3 (.slice wa wn wc) (w3.alloc (.cells #[.string (mk rr)] 9)) := ⟨by rw [Lib.cell_of_heap hB4.box]; rfl⟩
          have hR4 : RowS (w3.alloc (.cells #[.string (mk rr)] 9)) (KS w bx) 9 1 (.slice wa wn wc) wn (ws.map fun x => Value.string (mk x)) := (HRo.out.kept fun g' hg' hl => g3.block g' hl fun e => by have h0 := Option.some.inj e; (try dsimp only at h0); have := hg'.1; omega).kept fun g' _ hl => hb4.block g' hl
          have hown := hR4.own
          have hnew : ∀ (j : Nat) u, ([.string (mk rr)] : List Value)[j]? = some u → (w3.alloc (.cells #[.string (mk rr)] 9)).cell? ((⟨w3.heap.size, 0, none⟩ : Addr).add j) = some u := fun j u hj => by rw [Addr.add_lit, Nat.zero_add, Lib.cell_of_heap (heap_alloc_new w3 _)]; simpa using hj
          have HJ := hide' (And.intro hB3 g3)
          clear hB3 hB4 hR4 g3 h3 hb4 hp
          dsimp only
          refine ⟨hC3, ?_⟩
          refine wpAnyX_one (i := 4) (by kernel_rfl) (wpOp_wanted rfl (by rfl) ?_)
          go_simp
          obtain ⟨inf, hi, hz0, hz1, hz2⟩ := info_parts infoStr
          refine wpAnyX_one (i := 5) (by kernel_rfl) (wpOp_wanted rfl (by rfl) ?_)
          refine wp_append_lies _ _ _ 23 rfl 0 9 inf _ 1 16 Tryz.underlying23 hi hz0 hz1 hz2 rfl (by decide) (.slice wa wn wc) wn (ws.map fun x => Value.string (mk x)) rfl hown ⟨w3.heap.size, 0, none⟩ 1 1 [.string (mk rr)] rfl rfl hnew (by simp [Value.oneCell']) (by decide) (by unfold maxLen; omega) (by omega) (Nat.zero_le _) _ rfl ?_
          intro g cap w4 ho hg hat _
          clear hi hz0 hz1 hz2 hown hnew hC3 hC4
          obtain ⟨hB3, g3⟩ := HJ.out
          obtain ⟨hB4, hB5, hR5, hkp, hap⟩ := push_row (w2 := w5.drew) (f := 3) hB3 (HRo.out.kept fun _ _ _ => rfl) (by decide) g3 hAl hlW ho hg hat
          have e5 : w4.cell? ⟨bx, 3, none⟩ = some (.slice wa wn wc) := by rw [Lib.cell_of_heap hB4.box]; rfl
          have f5 := Lib.frozen_of_heap hB4.box 3
          have hC5 : BxC bx 3 (.slice wa wn wc) w4 := ⟨e5⟩
          have HB5 := hide' hB5
          have HR5 := hide' hR5
          have HKP := hide' (And.intro hkp hap)
          clear hB3 hB4 hB5 hR5 g3 ho hg hat HJ HB HRo hkp hap
          refine ⟨fun _ => hC5, ?_⟩
          refine wpAnyX_one (i := 6) (by kernel_rfl) (wpOp_wanted rfl (by rfl) ?_)
          go_simp
          refine wpAnyX_one (i := 7) (by kernel_rfl) (wpOp_wanted rfl (by rfl) ?_)
          go_simp
          refine wpAnyX_done (by kernel_rfl) ?_ _
          clear hC5 e5 f5
          obtain ⟨w9, hw9⟩ : ∃ w9, w9 = w4.setCell ⟨bx, 3, none⟩ (.slice (some ⟨g, 0, none⟩) (wn + 1) cap) := ⟨_, rfl⟩
          rw [← hw9] at HB5 HR5 ⊢
          clear hw9
          go_wp2_with fail
          go_roundg gk'
          case rel => exact ⟨by omega, s9, some ⟨g, 0, none⟩, wn + 1, cap, ws ++ [rr], HB5.out, by rw [List.map_append]; exact HR5.out, by rw [HWn.out]; simp, by omega, HRN.out⟩
          case measure => omega
      · rw [decide_eq_false hk] at q
        rw [if_neg hk] at hRL
        have HRT := hide' (show forK n ws s4 = R from hRL)
        have HB0 := hide' (And.intro hB hRo)
        clear hB hRo hk hRL
        go_wp2_with fail
        refine q.mono ?_
        rintro e w5 ⟨rfl, m, hw5⟩
        clear q
        have hB : BoxAt x w w5 s4 bx #[.int .i64 8, .bool false, .slice none 0 0, .slice wa wn wc, .slice none 0 0, .slice none 0 0, .slice none 0 0] := by rw [hw5]; exact HB0.out.1.below (below_drewn m)
        have hRo : RowS w5 (KS w bx) 9 1 (.slice wa wn wc) wn (ws.map fun x => Value.string (mk x)) := by rw [hw5]; exact HB0.out.2.kept fun _ _ _ => rfl
        clear hw5 HB0
        obtain ⟨sb, q⟩ := sep_any hB.ps
        have HB := hide' hB
        have HRo := hide' hRo
        clear hB hRo
        (try dsimp only)
        go_wp2_with fail
        refine q.mono ?_
        rintro e w6 ⟨rfl, h1, g1⟩
        clear q
        have hB := HB.out.call g1 h1 hAl
        have hRo : RowS w6 (KS w bx) 9 1 (.slice wa wn wc) wn (ws.map fun x => Value.string (mk x)) := HRo.out.kept fun g' hg' hl => g1.block g' hl fun e => by have := Option.some.inj e; have := hg'.1; omega
        clear HB HRo g1
        have hlW : bx < w6.heap.size := lt_of_block hB.box
        have HNo := hide' (show doP n (sepO s4) ≠ .out from fun e => HR.out.2 (by rw [← HRT.out, forK, e]; rfl))
        have q := hD w6 (sepO s4) h1 HNo.out
        have HB := hide' hB
        have HRo := hide' hRo
        clear hB hRo h1
        (try dsimp only)
        go_wp2_with fail
        refine q.mono ?_
        rintro e w7 hr
        clear q
        cases hp : doP n (sepO s4) with
        | out => exact absurd hp HNo.out
        | bad =>
          rw [hp] at hr
          obtain rfl : R = .bad := by rw [← HRT.out, forK, hp]; rfl
          obtain ⟨g3, b, p, rfl, hb⟩ := hr
          exact ⟨rfl, HB.out.gr.trans g3, b, p, rfl, hb⟩
        | ok c s6 =>
          rw [hp] at hr
          obtain rfl : R = .ok (.mk 8 false [] ws [] [c] []) s6 := by rw [← HRT.out, forK, hp]; rfl
          obtain ⟨g1, h1, v, rfl, hv⟩ := hr
          obtain ⟨k, nt, a1, a2, a3, a4, a5, n1, n2, n3, n4, n5, c1, c2, c3, c4, c5, rfl, hc⟩ := hv.form
          have hB := HB.out.call g1 h1 hAl
          have hRo : RowS w7 (KS w bx) 9 1 (.slice wa wn wc) wn (ws.map fun x => Value.string (mk x)) := HRo.out.kept fun g' hg' hl => g1.block g' hl fun e => by have := Option.some.inj e; have := hg'.1; omega
          have hs7 := g1.size
          have hlo := hB.lo
          have hk0 := kids_new w7 (w.heap.size + 1) [[.int .i64 k, .bool nt, .slice a1 n1 c1, .slice a2 n2 c2, .slice a3 n3 c3, .slice a4 n4 c4, .slice a5 n5 c5]] [c] #[.int .i64 k, .bool nt, .slice a1 n1 c1, .slice a2 n2 c2, .slice a3 n3 c3, .slice a4 n4 c4, .slice a5 n5 c5] rfl (fun i cs c' e1 e2 => by
            match i, e1, e2 with
            | 0, e1, e2 => cases e1; cases e2; exact hc.mono fun g hg _ => by omega) (by omega) rfl rfl (by simp) (by simp)
          have hcB := hc
          have hb8 : Below w7.heap.size w7 (w7.alloc (.cells #[.int .i64 k, .bool nt, .slice a1 n1 c1, .slice a2 n2 c2, .slice a3 n3 c3, .slice a4 n4 c4, .slice a5 n5 c5] 28)) := (Below.refl _ _).alloc (Nat.le_refl _) _
          have hk1 : KidsS (w7.alloc (.cells #[.int .i64 k, .bool nt, .slice a1 n1 c1, .slice a2 n2 c2, .slice a3 n3 c3, .slice a4 n4 c4, .slice a5 n5 c5] 28)) (KS w bx) (.slice (some ⟨w7.heap.size, 0, none⟩) 1 1) [[.int .i64 k, .bool nt, .slice a1 n1 c1, .slice a2 n2 c2, .slice a3 n3 c3, .slice a4 n4 c4, .slice a5 n5 c5]] [c] := ⟨hk0.row.monoO fun g e hg => ⟨hg, by have e : w7.heap.size = g := Option.some.inj e; omega⟩, hk0.len, fun i cs c' e1 e2 => by
            match i, e1, e2 with
            | 0, e1, e2 =>
              cases e1
              cases e2
              exact (hc.mono (S' := fun g => KS w bx g ∧ (Value.slice (some ⟨w7.heap.size, 0, none⟩) 1 1).ownBlock ≠ some g) fun g hg hl => ⟨⟨by omega, by omega⟩, fun e => by have e : w7.heap.size = g := Option.some.inj e; omega⟩).kept fun g _ hl => hb8.block g hl⟩
          have hB8 := hB.below hb8
          have hR8 : RowS (w7.alloc (.cells #[.int .i64 k, .bool nt, .slice a1 n1 c1, .slice a2 n2 c2, .slice a3 n3 c3, .slice a4 n4 c4, .slice a5 n5 c5] 28)) (KS w bx) 9 1 (.slice wa wn wc) wn (ws.map fun x => Value.string (mk x)) := hRo.kept fun g' _ hl => hb8.block g' hl
          obtain ⟨i0, i1, i2, i3, i4, i5, i6⟩ := cells7 hB8.box
          obtain ⟨j0, j1, j2, j3, j4, j5, j6⟩ := fz7 hB8.box
          have HX := hide' (And.intro hB8 (And.intro hR8 hk1))
          clear hk0 hk1 hB8 hR8 hb8 hB hRo hc hcB hv h1 g1 hp HB HRo
          dsimp only
          go_upto_region 8 with fail
          obtain ⟨w9, hw9⟩ : ∃ w9, w9 = (w7.alloc (.cells #[.int .i64 k, .bool nt, .slice a1 n1 c1, .slice a2 n2 c2, .slice a3 n3 c3, .slice a4 n4 c4, .slice a5 n5 c5] 28)).setCell ⟨bx, 5, none⟩ (.slice (some ⟨w7.heap.size, 0, none⟩) 1 1) := ⟨_, rfl⟩
          rw [← hw9]
          obtain ⟨hB8, hR8, hk1⟩ := HX.out
          have hB9 : BoxAt x w w9 s6 bx #[.int .i64 8, .bool false, .slice none 0 0, .slice wa wn wc, .slice none 0 0, .slice (some ⟨w7.heap.size, 0, none⟩) 1 1, .slice none 0 0] := by rw [hw9]; exact hB8.set 5 _
          have hR9 : RowS w9 (fun g => w.heap.size + 1 ≤ g) 9 1 (.slice wa wn wc) wn (ws.map fun x => Value.string (mk x)) := (hR8.kept fun g hg _ => by rw [hw9]; exact set_oth hg.2).mono fun g hg _ => hg.1
          have hK9 : KidsS w9 (fun g => w.heap.size + 1 ≤ g) (.slice (some ⟨w7.heap.size, 0, none⟩) 1 1) [[.int .i64 k, .bool nt, .slice a1 n1 c1, .slice a2 n2 c2, .slice a3 n3 c3, .slice a4 n4 c4, .slice a5 n5 c5]] [c] := (hk1.kept fun g hg _ => by rw [hw9]; exact set_oth hg.2).mono fun g hg _ => hg.1
          rw [HWn.out] at hR9 hB9
          have HE := hide' (prr_end (v0 := .int .i64 8) hB9.gr hB9.ps hB9.res (cd_for hR9 hK9))
          rw [← HWn.out] at hB9 HE
          clear hw9 i0 i1 i2 i3 i4 i5 i6 j0 j1 j2 j3 j4 j5 j6 HX hB8 hR8 hk1 hR9 hK9
          obtain ⟨o0, o1, o2, o3, o4, o5, o6⟩ := cells7 hB9.box
          obtain ⟨r0, r1, r2, r3, r4, r5, r6⟩ := cells7 hB9.res
          obtain ⟨f0, f1, f2, f3, f4, f5, f6⟩ := fz7 hB9.res
          clear hB9
          go_wp2
          obtain ⟨hV, hbk⟩ := HE.out _ rfl
          obtain ⟨d0, d1, d2, d3, d4, d5, d6⟩ := cells7 hbk
          refine bodyPost_ret (v := .agg #[.int .i64 8, .bool false, .slice none 0 0, .slice wa wn wc, .slice none 0 0, .slice (some ⟨w7.heap.size, 0, none⟩) 1 1, .slice none 0 0]) (by simp [results, Tryz.results35, go_sem, d0, d1, d2, d3, d4, d5, d6]) rfl ?_
          exact hV
    · have HRT := hide' (show forK n [nm] s1.sk = R by rw [← HR2.out, if_neg hin]; rfl)
      have q := pass_no hB.ps [105, 110] hin
      have HB0 := hide' (And.intro hB hRo)
      clear hB hRo hin HR2
      dsimp only
      go_wp2_with fail
      refine q.mono ?_
      rintro e w5 ⟨rfl, m, hw5⟩
      clear q
      have hB : BoxAt x w w5 s1.sk bx #[.int .i64 8, .bool false, .slice none 0 0, .slice wa wn wc, .slice none 0 0, .slice none 0 0, .slice none 0 0] := by rw [hw5]; exact HB0.out.1.below (below_drewn m)
      have hRo : RowS w5 (KS w bx) 9 1 (.slice wa wn wc) wn ([nm].map fun x => Value.string (mk x)) := by rw [hw5]; exact HB0.out.2.kept fun _ _ _ => rfl
      clear hw5 HB0
      obtain ⟨sb, q⟩ := sep_any hB.ps
      have HB := hide' hB
      have HRo := hide' hRo
      clear hB hRo
      (try dsimp only)
      go_wp2_with fail
      refine q.mono ?_
      rintro e w6 ⟨rfl, h1, g1⟩
      clear q
      have hB := HB.out.call g1 h1 hAl
      have hRo : RowS w6 (KS w bx) 9 1 (.slice wa wn wc) wn ([nm].map fun x => Value.string (mk x)) := HRo.out.kept fun g' hg' hl => g1.block g' hl fun e => by have := Option.some.inj e; have := hg'.1; omega
      clear HB HRo g1
      have hlW : bx < w6.heap.size := lt_of_block hB.box
      have HNo := hide' (show doP n (sepO s1.sk) ≠ .out from fun e => HR.out.2 (by rw [← HRT.out, forK, e]; rfl))
      have q := hD w6 (sepO s1.sk) h1 HNo.out
      have HB := hide' hB
      have HRo := hide' hRo
      clear hB hRo h1
      (try dsimp only)
      go_wp2_with fail
      refine q.mono ?_
      rintro e w7 hr
      clear q
      cases hp : doP n (sepO s1.sk) with
      | out => exact absurd hp HNo.out
      | bad =>
        rw [hp] at hr
        obtain rfl : R = .bad := by rw [← HRT.out, forK, hp]; rfl
        obtain ⟨g3, b, p, rfl, hb⟩ := hr
        exact ⟨rfl, HB.out.gr.trans g3, b, p, rfl, hb⟩
      | ok c s6 =>
        rw [hp] at hr
        obtain rfl : R = .ok (.mk 8 false [] [nm] [] [c] []) s6 := by rw [← HRT.out, forK, hp]; rfl
        obtain ⟨g1, h1, v, rfl, hv⟩ := hr
        obtain ⟨k, nt, a1, a2, a3, a4, a5, n1, n2, n3, n4, n5, c1, c2, c3, c4, c5, rfl, hc⟩ := hv.form
        have hB := HB.out.call g1 h1 hAl
        have hRo : RowS w7 (KS w bx) 9 1 (.slice wa wn wc) wn ([nm].map fun x => Value.string (mk x)) := HRo.out.kept fun g' hg' hl => g1.block g' hl fun e => by have := Option.some.inj e; have := hg'.1; omega
        have hs7 := g1.size
        have hlo := hB.lo
        have hk0 := kids_new w7 (w.heap.size + 1) [[.int .i64 k, .bool nt, .slice a1 n1 c1, .slice a2 n2 c2, .slice a3 n3 c3, .slice a4 n4 c4, .slice a5 n5 c5]] [c] #[.int .i64 k, .bool nt, .slice a1 n1 c1, .slice a2 n2 c2, .slice a3 n3 c3, .slice a4 n4 c4, .slice a5 n5 c5] rfl (fun i cs c' e1 e2 => by
          match i, e1, e2 with
          | 0, e1, e2 => cases e1; cases e2; exact hc.mono fun g hg _ => by omega) (by omega) rfl rfl (by simp) (by simp)
        have hcB := hc
        have hb8 : Below w7.heap.size w7 (w7.alloc (.cells #[.int .i64 k, .bool nt, .slice a1 n1 c1, .slice a2 n2 c2, .slice a3 n3 c3, .slice a4 n4 c4, .slice a5 n5 c5] 28)) := (Below.refl _ _).alloc (Nat.le_refl _) _
        have hk1 : KidsS (w7.alloc (.cells #[.int .i64 k, .bool nt, .slice a1 n1 c1, .slice a2 n2 c2, .slice a3 n3 c3, .slice a4 n4 c4, .slice a5 n5 c5] 28)) (KS w bx) (.slice (some ⟨w7.heap.size, 0, none⟩) 1 1) [[.int .i64 k, .bool nt, .slice a1 n1 c1, .slice a2 n2 c2, .slice a3 n3 c3, .slice a4 n4 c4, .slice a5 n5 c5]] [c] := ⟨hk0.row.monoO fun g e hg => ⟨hg, by have e : w7.heap.size = g := Option.some.inj e; omega⟩, hk0.len, fun i cs c' e1 e2 => by
          match i, e1, e2 with
          | 0, e1, e2 =>
            cases e1
            cases e2
            exact (hc.mono (S' := fun g => KS w bx g ∧ (Value.slice (some ⟨w7.heap.size, 0, none⟩) 1 1).ownBlock ≠ some g) fun g hg hl => ⟨⟨by omega, by omega⟩, fun e => by have e : w7.heap.size = g := Option.some.inj e; omega⟩).kept fun g _ hl => hb8.block g hl⟩
        have hB8 := hB.below hb8
        have hR8 : RowS (w7.alloc (.cells #[.int .i64 k, .bool nt, .slice a1 n1 c1, .slice a2 n2 c2, .slice a3 n3 c3, .slice a4 n4 c4, .slice a5 n5 c5] 28)) (KS w bx) 9 1 (.slice wa wn wc) wn ([nm].map fun x => Value.string (mk x)) := hRo.kept fun g' _ hl => hb8.block g' hl
        obtain ⟨i0, i1, i2, i3, i4, i5, i6⟩ := cells7 hB8.box
        obtain ⟨j0, j1, j2, j3, j4, j5, j6⟩ := fz7 hB8.box
        have HX := hide' (And.intro hB8 (And.intro hR8 hk1))
        clear hk0 hk1 hB8 hR8 hb8 hB hRo hc hcB hv h1 g1 hp HB HRo
        dsimp only
        go_upto_region 8 with fail
        obtain ⟨w9, hw9⟩ : ∃ w9, w9 = (w7.alloc (.cells #[.int .i64 k, .bool nt, .slice a1 n1 c1, .slice a2 n2 c2, .slice a3 n3 c3, .slice a4 n4 c4, .slice a5 n5 c5] 28)).setCell ⟨bx, 5, none⟩ (.slice (some ⟨w7.heap.size, 0, none⟩) 1 1) := ⟨_, rfl⟩
        rw [← hw9]
        obtain ⟨hB8, hR8, hk1⟩ := HX.out
        have hB9 : BoxAt x w w9 s6 bx #[.int .i64 8, .bool false, .slice none 0 0, .slice wa wn wc, .slice none 0 0, .slice (some ⟨w7.heap.size, 0, none⟩) 1 1, .slice none 0 0] := by rw [hw9]; exact hB8.set 5 _
        have hR9 : RowS w9 (fun g => w.heap.size + 1 ≤ g) 9 1 (.slice wa wn wc) wn ([nm].map fun x => Value.string (mk x)) := (hR8.kept fun g hg _ => by rw [hw9]; exact set_oth hg.2).mono fun g hg _ => hg.1
        have hK9 : KidsS w9 (fun g => w.heap.size + 1 ≤ g) (.slice (some ⟨w7.heap.size, 0, none⟩) 1 1) [[.int .i64 k, .bool nt, .slice a1 n1 c1, .slice a2 n2 c2, .slice a3 n3 c3, .slice a4 n4 c4, .slice a5 n5 c5]] [c] := (hk1.kept fun g hg _ => by rw [hw9]; exact set_oth hg.2).mono fun g hg _ => hg.1
        rw [HWn.out] at hR9 hB9
        have HE := hide' (prr_end (v0 := .int .i64 8) hB9.gr hB9.ps hB9.res (cd_for hR9 hK9))
        rw [← HWn.out] at hB9 HE
        clear hw9 i0 i1 i2 i3 i4 i5 i6 j0 j1 j2 j3 j4 j5 j6 HX hB8 hR8 hk1 hR9 hK9
        obtain ⟨o0, o1, o2, o3, o4, o5, o6⟩ := cells7 hB9.box
        obtain ⟨r0, r1, r2, r3, r4, r5, r6⟩ := cells7 hB9.res
        obtain ⟨f0, f1, f2, f3, f4, f5, f6⟩ := fz7 hB9.res
        clear hB9
        go_wp2
        obtain ⟨hV, hbk⟩ := HE.out _ rfl
        obtain ⟨d0, d1, d2, d3, d4, d5, d6⟩ := cells7 hbk
        refine bodyPost_ret (v := .agg #[.int .i64 8, .bool false, .slice none 0 0, .slice wa wn wc, .slice none 0 0, .slice (some ⟨w7.heap.size, 0, none⟩) 1 1, .slice none 0 0]) (by simp [results, Tryz.results35, go_sem, d0, d1, d2, d3, d4, d5, d6]) rfl ?_
        exact hV
end Go.Proofs.YtcemlhfodpelaaaGreatDoor
