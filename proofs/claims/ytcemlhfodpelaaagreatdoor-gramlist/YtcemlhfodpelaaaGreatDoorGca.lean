/- case. -/
import Derived.Test.YtcemlhfodpelaaaGreatDoorGar
namespace Go.Proofs.YtcemlhfodpelaaaGreatDoor
open Go.RowKit

theorem infoArm : (Tryz.prog.info? 42).map (fun i : TypeInfo => (i.zero, i.size, i.bytes)) = some (some (.agg zeroA), 8, 160) := by kernel_rfl
def ArmAt (w : World) (S : Nat → Prop) (a : Value × List Value) (b : List Bs × Cd) : Prop := StrsS w S a.1 b.1 ∧ CdAt w S a.2 b.2
theorem ArmAt.kept {w w' : World} {S : Nat → Prop} {a : Value × List Value} {b : List Bs × Cd} (h : ArmAt w S a b) (hk : ∀ g, S g → g < w.heap.size → w'.heap[g]? = w.heap[g]?) : ArmAt w' S a b := ⟨h.1.kept hk, h.2.kept hk⟩
theorem ArmAt.mono {w : World} {S S' : Nat → Prop} {a : Value × List Value} {b : List Bs × Cd} (h : ArmAt w S a b) (hS : ∀ g, S g → g < w.heap.size → S' g) : ArmAt w S' a b := ⟨h.1.mono hS, h.2.mono hS⟩
/-- arms in a row that is being built -/
structure ArmsS (w : World) (S : Nat → Prop) (mv : Value) (n : Nat) (ac : List (Value × List Value)) (ar : List (List Bs × Cd)) : Prop where
  row : RowS w S 42 8 mv n (ac.flatMap armC)
  num : n = ar.length
  len : ac.length = ar.length
  el : ∀ (i : Nat) a b, ac[i]? = some a → ar[i]? = some b → ArmAt w (fun g => S g ∧ mv.ownBlock ≠ some g) a b
theorem ArmsS.nil (w : World) (S : Nat → Prop) : ArmsS w S (.slice none 0 0) 0 [] [] := ⟨RowS.nil _ _ _ _, rfl, rfl, fun i a b h => by simp at h⟩
theorem ArmsS.kept {w w' : World} {S : Nat → Prop} {mv : Value} {n : Nat} {ac : List (Value × List Value)} {ar : List (List Bs × Cd)} (h : ArmsS w S mv n ac ar) (hk : ∀ g, S g → g < w.heap.size → w'.heap[g]? = w.heap[g]?) : ArmsS w' S mv n ac ar :=
  ⟨h.row.kept hk, h.num, h.len, fun i a b h1 h2 => (h.el i a b h1 h2).kept fun g hg hl => hk g hg.1 hl⟩
theorem ArmsS.mono {w : World} {S S' : Nat → Prop} {mv : Value} {n : Nat} {ac : List (Value × List Value)} {ar : List (List Bs × Cd)} (h : ArmsS w S mv n ac ar) (hS : ∀ g, S g → g < w.heap.size → S' g) : ArmsS w S' mv n ac ar :=
  ⟨h.row.mono hS, h.num, h.len, fun i a b h1 h2 => (h.el i a b h1 h2).mono fun g hg hl => ⟨hS g hg.1 hl, hg.2⟩⟩
theorem cd_case {w : World} {S : Nat → Prop} {wv mv : Value} {n : Nat} {ws : List Bs} {ac : List (Value × List Value)} {ar : List (List Bs × Cd)} (h2 : StrsS w S wv ws) (h : ArmsS w S mv n ac ar) : CdAt w S [.int .i64 9, .bool false, .slice none 0 0, wv, .slice none 0 0, .slice none 0 0, mv] (.mk 9 false [] ws [] [] ar) := by
  have hr := h.row
  rw [h.num] at hr
  exact .intro 9 false [] ws [] [] ar _ _ _ _ mv [] ac (RowS.nil _ _ _ _) h2 (RowS.nil _ _ _ _) (RowS.nil _ _ _ _) rfl (fun i cs c h1 => by simp at h1) hr h.len (fun i a b h1 h3 => ((h.el i a b h1 h3).mono fun _ h4 _ => h4.1).1) (fun i a b h1 h3 => ((h.el i a b h1 h3).mono fun _ h4 _ => h4.1).2)
/-- an arm that a call told stands at the row's end -/
theorem push_arm {x : Cx} {w0 w2 w3 w4 : World} {s : PS} {bx g cap n : Nat} {vals cells : Array Value} {kv : Value} {ac : List (Value × List Value)} {ar : List (List Bs × Cd)} {a : Value × List Value} {b : List Bs × Cd}
    (hB : BoxAt x w0 w3 s bx vals) (hK : ArmsS w2 (KS w0 bx) kv n ac ar) (hG : Gr x w2 w3) (hA : x.A < w0.heap.size) (hbx : bx < w2.heap.size) (hc : ArmAt w3 (fun g => w2.heap.size ≤ g) a b)
    (ho : w4.ownsRow 0 42 8 (.slice (some ⟨g, 0, none⟩) (n + 1) cap) (n + 1) (ac.flatMap armC ++ armC a)) (hg : (w3.alloc (.cells cells 42)).grownBy w4 kv.ownBlock) (hat : kv.ownBlock = some g ∨ g = (w3.alloc (.cells cells 42)).heap.size) :
    BoxAt x w0 w4 s bx vals ∧ BoxAt x w0 (w4.setCell ⟨bx, 6, none⟩ (.slice (some ⟨g, 0, none⟩) (n + 1) cap)) s bx (vals.setIfInBounds 6 (.slice (some ⟨g, 0, none⟩) (n + 1) cap)) ∧
      ArmsS (w4.setCell ⟨bx, 6, none⟩ (.slice (some ⟨g, 0, none⟩) (n + 1) cap)) (KS w0 bx) (.slice (some ⟨g, 0, none⟩) (n + 1) cap) (n + 1) (ac ++ [a]) (ar ++ [b]) ∧
      (∀ b, KS w0 bx b → b < w2.heap.size → kv.ownBlock ≠ some b → (w4.setCell ⟨bx, 6, none⟩ (.slice (some ⟨g, 0, none⟩) (n + 1) cap)).heap[b]? = w2.heap[b]?) := by
  obtain ⟨hB4, hB5, hR5, hkp, hap⟩ := push_row (f := 6) hB hK.row (by decide) hG hA hbx ho hg hat
  have hb : Below w3.heap.size w3 (w3.alloc (.cells cells 42)) := (Below.refl _ _).alloc (Nat.le_refl _) _
  have hs : (w3.alloc (.cells cells 42)).heap.size = w3.heap.size + 1 := by simp
  have hs2 := hG.size
  have hlo := hB.lo
  have hkl : ∀ g', kv.ownBlock = some g' → g' < w2.heap.size := fun g' e => by
    obtain ⟨_, cur, h2⟩ := hK.row.blk g' e
    exact lt_of_block h2
  generalize hW : w3.alloc (.cells cells 42) = W at *
  refine ⟨hB4, hB5, ⟨by rw [List.flatMap_append]; simpa using hR5, by rw [hK.num]; simp, by simp [hK.len], fun i a' b' h1 h2 => ?_⟩, hkp⟩
  by_cases hi : i < ac.length
  · rw [List.getElem?_append_left hi] at h1
    rw [List.getElem?_append_left (by rw [← hK.len]; exact hi)] at h2
    exact (((hK.el i a' b' h1 h2).mono (S' := fun g' => (KS w0 bx g' ∧ kv.ownBlock ≠ some g') ∧ (Value.slice (some ⟨g, 0, none⟩) (n + 1) cap).ownBlock ≠ some g') fun g' h3 h4 => ⟨h3, hap g' h4 h3.2⟩).kept fun g' h3 h4 => hkp g' h3.1.1 h4 h3.1.2).mono fun g' h3 _ => ⟨h3.1.1, h3.2⟩
  · rw [List.getElem?_append_right (by omega)] at h1
    rw [List.getElem?_append_right (by rw [← hK.len]; omega), ← hK.len] at h2
    have hi0 : i - ac.length = 0 := by
      rcases Nat.eq_zero_or_pos (i - ac.length) with h3 | h3
      · exact h3
      · rw [List.getElem?_eq_none (by simp; omega)] at h1; cases h1
    rw [hi0] at h1 h2
    cases (Option.some.inj h1)
    cases (Option.some.inj h2)
    refine ((hc.mono (S' := fun g' => (w2.heap.size ≤ g' ∧ g' < w3.heap.size) ∧ (Value.slice (some ⟨g, 0, none⟩) (n + 1) cap).ownBlock ≠ some g') fun g' h3 h4 => ⟨⟨h3, h4⟩, fun e => ?_⟩).kept fun g' h3 h4 => ?_).mono fun g' h3 _ => ⟨⟨by have := h3.1; omega, by have := h3.1; omega⟩, h3.2⟩
    · have e : g = g' := Option.some.inj e
      rcases hat with h5 | h5
      · have := hkl g h5; omega
      · omega
    · rw [set_oth (by have := h3.1; omega), hg.block g' (by have := h3.1; omega) fun e => by have := hkl g' e.symm; have := h3.1; omega]
      exact hb.block g' h4
def casK (nm : Bs) (ar : List (List Bs × Cd)) (s3 : PS) : PR Cd := .ok (.mk 9 false [] [nm] [] [] ar) s3
set_option maxRecDepth 100000 in
set_option maxHeartbeats 8000000 in
theorem case_step {x : Cx} {n : Nat} (hn : n ≤ 1000000) (hAr : ∀ n', n' ≤ n → ∀ w s, PsAt w x s → armP n' s ≠ .out → Calls Tryz.prog 61 #[ptr x.A] w (PrR x w (armP n' s) (ArmV w.heap.size))) (w : World) (s : PS) (h : PsAt w x s) (hne : formP (n + 1) .cas s ≠ .out) : Calls Tryz.prog 36 #[ptr x.A] w (PrR x w (formP (n + 1) .cas s) (CmdV w.heap.size)) := by
  have hAl := h.lt
  obtain ⟨W, hW, h0, g0, z0, s0⟩ := res_laid h
  have HW := hide' hW
  obtain ⟨R, hR⟩ : ∃ R, formP (n + 1) .cas s = R := ⟨_, rfl⟩
  rw [hR] at hne ⊢
  rw [formP] at hR
  have hR : (andT (wordP s) fun nm s1 => andT (wantP [105, 110] s1.sk) fun _ s2 => andT (armsP n [] s2.sk) (casK nm)) = R := hR
  have HR := hide' (And.intro hR hne)
  have q := word_step W s h0
  have HH := hide' (And.intro g0 (And.intro z0 s0))
  clear hW h0 g0 z0 s0 h hR hne
  go_enter Tryz.func36, Tryz.ntmps36
  go_wp2_with fail
  rw [← HW.out]
  refine q.mono ?_
  rintro e w1 hr
  clear q
  obtain ⟨g0, z0, s0⟩ := HH.out
  cases hp : wordP s with
  | out =>
    unfold wordP at hp
    split at hp <;> cases hp
  | bad =>
    rw [hp] at hr
    obtain rfl : R = .bad := by rw [← HR.out.1, hp]; rfl
    obtain ⟨g3, b, p, rfl, hb⟩ := hr
    exact ⟨rfl, g0.trans g3, b, p, rfl, hb⟩
  | ok nm s1 =>
    rw [hp] at hr
    have HR2 := hide' (show (andT (wantP [105, 110] s1.sk) fun _ s2 => andT (armsP n [] s2.sk) (casK nm)) = R by rw [← HR.out.1, hp]; rfl)
    obtain ⟨g1, h1, v, rfl, hv⟩ := hr
    obtain rfl : v = .string (mk nm) := hv
    have z1 := g1.blk (by omega) z0
    have hs1 := g1.size
    obtain ⟨w2, hw2⟩ : ∃ w2, w2 = (w1.alloc (.cells #[.string (mk nm)] 9)).alloc (.cells #[.int .i64 9, .bool false, .slice none 0 0, .slice (some ⟨w1.heap.size, 0, none⟩) 1 1, .slice none 0 0, .slice none 0 0, .slice none 0 0] 28) := ⟨_, rfl⟩
    have hsA : (w1.alloc (.cells #[.string (mk nm)] 9)).heap.size = w1.heap.size + 1 := by simp
    have hb1 : Below w1.heap.size w1 (w1.alloc (.cells #[.string (mk nm)] 9)) := (Below.refl _ _).alloc (Nat.le_refl _) _
    have hb2' : Below (w1.alloc (.cells #[.string (mk nm)] 9)).heap.size (w1.alloc (.cells #[.string (mk nm)] 9)) w2 := by rw [hw2]; exact (Below.refl _ _).alloc (Nat.le_refl _) _
    have hb2 : Below w1.heap.size w1 w2 := hb1.trans (hb2'.mono (by simp))
    have zr : w2.heap[w1.heap.size]? = some (.cells #[.string (mk nm)] 9 (0, 0)) := (hb2'.block _ (by omega)).trans (heap_alloc_new w1 _)
    have zb : w2.heap[w1.heap.size + 1]? = some (.cells #[.int .i64 9, .bool false, .slice none 0 0, .slice (some ⟨w1.heap.size, 0, none⟩) 1 1, .slice none 0 0, .slice none 0 0, .slice none 0 0] 28 (0, 0)) := by
      rw [hw2]
      have := heap_alloc_new (w1.alloc (.cells #[.string (mk nm)] 9)) (.cells #[.int .i64 9, .bool false, .slice none 0 0, .slice (some ⟨w1.heap.size, 0, none⟩) 1 1, .slice none 0 0, .slice none 0 0, .slice none 0 0] 28)
      rwa [hsA] at this
    have hR0 : RowS w2 (KS w (w1.heap.size + 1)) 9 1 (.slice (some ⟨w1.heap.size, 0, none⟩) 1 1) 1 ([nm].map fun x => Value.string (mk x)) := ⟨rfl, .inr ⟨w1.heap.size, 1, _, rfl, ⟨by omega, by omega⟩, zr, Nat.le_refl _, by unfold maxLen; omega, rfl, rfl, by omega⟩⟩
    have hB0 : BoxAt x w w2 s1 (w1.heap.size + 1) #[.int .i64 9, .bool false, .slice none 0 0, .slice (some ⟨w1.heap.size, 0, none⟩) 1 1, .slice none 0 0, .slice none 0 0, .slice none 0 0] := ⟨h1.below hb2, (g0.trans g1).trans (Gr.of_below hb2), (hb2.block _ (lt_of_block z1)).trans z1, zb, by omega⟩
    obtain ⟨wa, wn, wc, hB, hRo, hwn⟩ : ∃ wa wn wc, BoxAt x w w2 s1 (w1.heap.size + 1) #[.int .i64 9, .bool false, .slice none 0 0, .slice wa wn wc, .slice none 0 0, .slice none 0 0, .slice none 0 0] ∧ RowS w2 (KS w (w1.heap.size + 1)) 9 1 (.slice wa wn wc) wn ([nm].map fun x => Value.string (mk x)) ∧ wn = [nm].length := ⟨_, 1, 1, hB0, hR0, rfl⟩
    have HB := hide' hB
    have HRo := hide' hRo
    have HWn := hide' hwn
    obtain ⟨bx, hbx⟩ : ∃ bx, bx = w1.heap.size + 1 := ⟨_, rfl⟩
    have hbl : w.heap.size < bx := by omega
    have HW2 := hide' hw2
    have q := skip_any hB.ps
    clear hsA hb1 hb2' hb2 hw2 h1 g1 g0 z0 z1 HH zb zr hp hB hRo hwn hB0 hR0
    rw [← hbx] at HB HRo
    dsimp only
    go_wp2_with fail
    rw [← HW2.out, ← hbx]
    clear hbx
    refine q.mono ?_
    rintro e w3 ⟨rfl, h1, g1⟩
    clear q
    have hB := HB.out.call g1 h1 hAl
    have hRo : RowS w3 (KS w bx) 9 1 (.slice wa wn wc) wn ([nm].map fun x => Value.string (mk x)) := HRo.out.kept fun g' hg' hl => g1.block g' hl fun e => by have := Option.some.inj e; have := hg'.1; omega
    clear HB HRo h1 g1
    by_cases hin : tx s1.sk.ts = [105, 110]
    · have HR3 := hide' (show andT (armsP n [] s1.sk.nx.sk) (casK nm) = R by rw [← HR2.out, wantP, if_pos hin]; rfl)
      have q := want_yes hB.ps [105, 110] (by simp) hin
      have HB := hide' hB
      have HRo := hide' hRo
      clear hB hRo hin HR2
      dsimp only
      go_wp2_with fail
      refine q.mono ?_
      rintro e w4 ⟨rfl, h1, g1⟩
      clear q
      have hB := HB.out.call g1 h1 hAl
      have hRo : RowS w4 (KS w bx) 9 1 (.slice wa wn wc) wn ([nm].map fun x => Value.string (mk x)) := HRo.out.kept fun g' hg' hl => g1.block g' hl fun e => by have := Option.some.inj e; have := hg'.1; omega
      have q := skip_any hB.ps
      clear HB HRo h1 g1
      have HB := hide' hB
      have HRo := hide' hRo
      clear hB hRo
      dsimp only
      go_wp2_with fail
      refine q.mono ?_
      rintro e w5 ⟨rfl, h1, g1⟩
      clear q
      have hB := HB.out.call g1 h1 hAl
      have hRo : RowS w5 (KS w bx) 9 1 (.slice wa wn wc) wn ([nm].map fun x => Value.string (mk x)) := HRo.out.kept fun g' hg' hl => g1.block g' hl fun e => by have := Option.some.inj e; have := hg'.1; omega
      have HBR := hide' (And.intro hB hRo)
      clear HB HRo h1 g1 hB hRo
      dsimp only
      go_wp2_with fail
      go_loopg [] n (fun gk wr => gk ≤ n ∧ ∃ s' ma mn mc ac ar, BoxAt x w wr s' bx #[.int .i64 9, .bool false, .slice none 0 0, .slice wa wn wc, .slice none 0 0, .slice none 0 0, .slice ma mn mc] ∧ RowS wr (KS w bx) 9 1 (.slice wa wn wc) wn ([nm].map fun x => Value.string (mk x)) ∧ ArmsS wr (KS w bx) (.slice ma mn mc) mn ac ar ∧ mn + gk ≤ n ∧ andT (armsP gk ar s') (casK nm) = R)
      case atStart => exact ⟨Nat.le_refl _, _, none, 0, 0, [], [], HBR.out.1, HBR.out.2, ArmsS.nil _ _, by omega, HR3.out⟩
      clear HBR HR3
      obtain ⟨hgk, s4, ma, mn, mc, ac, ar, hB, hRo, hM, hbd, hRL⟩ := hrel
      have hBs := lt_of_block hB.box
      cases gk with
      | zero => exact absurd (by rw [← hRL]; rfl) HR.out.2
      | succ gk' =>
      rw [armsP] at hRL
      by_cases hk : tx s4.ts = [101, 115, 97, 99]
      · have q := pass_yes hB.ps [101, 115, 97, 99] (by simp) hk
        rw [if_pos hk] at hRL
        obtain rfl : R = .ok (.mk 9 false [] [nm] [] [] ar) s4.nx := hRL.symm
        have HB0 := hide' (And.intro hB (And.intro hRo hM))
        clear hB hRo hM hk hRL
        go_wp2_with fail
        refine q.mono ?_
        rintro e w6 ⟨rfl, h1, g1⟩
        clear q
        have hk6 : ∀ g, KS w bx g → g < _ → w6.heap[g]? = _ := fun g' hg' hl => g1.block g' hl fun e => by have := Option.some.inj e; have := hg'.1; omega
        have hB := HB0.out.1.call g1 h1 hAl
        have hRo := (HB0.out.2.1.kept hk6).mono (S' := fun g => w.heap.size + 1 ≤ g) fun g hg _ => hg.1
        have hM := (HB0.out.2.2.kept hk6).mono (S' := fun g => w.heap.size + 1 ≤ g) fun g hg _ => hg.1
        clear hk6 HB0 h1 g1
        have hRz : StrsS w6 (fun g => w.heap.size + 1 ≤ g) (.slice wa wn wc) [nm] := by
          have e9 := HWn.out
          subst e9
          exact hRo
        have HE := hide' (prr_end (v0 := .int .i64 9) hB.gr hB.ps hB.res (cd_case hRz hM))
        obtain ⟨o0, o1, o2, o3, o4, o5, o6⟩ := cells7 hB.box
        obtain ⟨r0, r1, r2, r3, r4, r5, r6⟩ := cells7 hB.res
        obtain ⟨f0, f1, f2, f3, f4, f5, f6⟩ := fz7 hB.res
        clear hB hRo hM hRz
        (try dsimp only)
        go_wp2
        obtain ⟨hV, hbk⟩ := HE.out _ rfl
        obtain ⟨d0, d1, d2, d3, d4, d5, d6⟩ := cells7 hbk
        refine bodyPost_ret (v := .agg #[.int .i64 9, .bool false, .slice none 0 0, .slice wa wn wc, .slice none 0 0, .slice none 0 0, .slice ma mn mc]) (by simp [results, Tryz.results36, go_sem, d0, d1, d2, d3, d4, d5, d6]) rfl ?_
        exact hV
      · have q := pass_no hB.ps [101, 115, 97, 99] hk
        rw [if_neg hk] at hRL
        have HRL := hide' (show (andT (andT (armP gk' s4) fun a s' => armsP gk' (ar ++ [a]) s') (casK nm)) = R from hRL)
        have HB0 := hide' (And.intro hB (And.intro hRo hM))
        clear hB hRo hM hk hRL
        go_wp2_with fail
        refine q.mono ?_
        rintro e w6 ⟨rfl, m, hw6⟩
        clear q
        have hB : BoxAt x w w6 s4 bx #[.int .i64 9, .bool false, .slice none 0 0, .slice wa wn wc, .slice none 0 0, .slice none 0 0, .slice ma mn mc] := by rw [hw6]; exact HB0.out.1.below (below_drewn m)
        have hRo : RowS w6 (KS w bx) 9 1 (.slice wa wn wc) wn ([nm].map fun x => Value.string (mk x)) := by rw [hw6]; exact HB0.out.2.1.kept fun _ _ _ => rfl
        have hM : ArmsS w6 (KS w bx) (.slice ma mn mc) mn ac ar := by rw [hw6]; exact HB0.out.2.2.kept fun _ _ _ => rfl
        clear hw6 HB0
        have HNo := hide' (show armP gk' s4 ≠ .out from fun e => HR.out.2 (by rw [← HRL.out, e]; rfl))
        have q := hAr gk' (by omega) w6.drew s4 hB.ps.drew HNo.out
        have hlW : bx < w6.drew.heap.size := lt_of_block hB.box
        have HB := hide' hB
        have HM := hide' (And.intro hRo hM)
        clear hB hRo hM
        dsimp only
        go_upto_region 6 with fail
        refine wp_region_classX [7] (C := BxC bx 6 (.slice ma mn mc)) (by kernel_rfl) ?_
        have hC : BxC bx 6 (.slice ma mn mc) w6.drew := ⟨by rw [show w6.drew.cell? ⟨bx, 6, none⟩ = w6.cell? ⟨bx, 6, none⟩ from rfl, Lib.cell_of_heap HB.out.box]; rfl⟩
        (refine wpAnyX_take (i := 0) (v := ?_) hC rfl (by kernel_rfl) (by kernel_rfl) (by kernel_rfl) (by kernel_rfl) (fun _ _ _ h => h) (Or.inl ⟨by kernel_rfl, ?_⟩) ?_; rotate_left; (intro w hc; have k3 := hc.c; clear hc; go_simp; try with_reducible rfl))
        (refine wpAnyX_take (i := 1) (v := ?_) hC rfl (by kernel_rfl) (by kernel_rfl) (by kernel_rfl) (by kernel_rfl) (fun _ _ _ h => h) (Or.inl ⟨by kernel_rfl, ?_⟩) ?_; rotate_left; (intro w hc; have k3 := hc.c; clear hc; go_simp; try with_reducible rfl))
        (refine wpAnyX_take (i := 2) (v := ?_) hC rfl (by kernel_rfl) (by kernel_rfl) (by kernel_rfl) (by kernel_rfl) (fun _ _ _ h => h) (Or.inl ⟨by kernel_rfl, ?_⟩) ?_; rotate_left; (intro w hc; have k3 := hc.c; clear hc; go_simp; try with_reducible rfl))
        refine wpAnyX_one (i := 3) (by kernel_rfl) (wpOp_wanted rfl (by rfl) ?_)
        go_simp
        refine q.mono ?_
        rintro e w3 hr
        clear q hC
        cases hp : armP gk' s4 with
        | out => exact absurd hp HNo.out
        | bad =>
          rw [hp] at hr
          obtain rfl : R = .bad := by rw [← HRL.out, hp]; rfl
          obtain ⟨g3, b, p, rfl, hb⟩ := hr
          exact ⟨rfl, HB.out.gr.trans ((Gr.drew x _).trans g3), b, p, rfl, hb⟩
        | ok rr s9 =>
          rw [hp] at hr
          have HRN := hide' (show andT (armsP gk' (ar ++ [rr]) s9) (casK nm) = R by rw [← HRL.out, hp]; rfl)
          obtain ⟨g3, h3, v, rfl, pv, v1, v2, v3, v4, v5, v6, v7, rfl, hpa, hbo⟩ := hr
          obtain ⟨pa, pc, rfl⟩ := hpa.form
          obtain ⟨pn, hpn⟩ : ∃ pn, pn = rr.1.length := ⟨_, rfl⟩
          have hAA : ArmAt w3 (fun g => w6.drew.heap.size ≤ g) (.slice pa pn pc, [v1, v2, v3, v4, v5, v6, v7]) rr := by rw [hpn]; exact ⟨hpa, hbo⟩
          obtain ⟨k, nt, a1, a2, a3, a4, a5, n1, n2, n3, n4, n5, c1, c2, c3, c4, c5, hfm⟩ := hbo.form
          injection hfm with e1 hfm
          injection hfm with e2 hfm
          injection hfm with e3 hfm
          injection hfm with e4 hfm
          injection hfm with e5 hfm
          injection hfm with e6 hfm
          injection hfm with e7 hfm
          subst e1 e2 e3 e4 e5 e6 e7
          rw [← hpn] at *
          clear hpa hbo hfm hpn
          have hB3 := HB.out.drew.call g3 h3 hAl
          have hs3 := g3.size
          have hb4 : Below w3.heap.size w3 (w3.alloc (.cells #[.slice pa pn pc, .int .i64 k, .bool nt, .slice a1 n1 c1, .slice a2 n2 c2, .slice a3 n3 c3, .slice a4 n4 c4, .slice a5 n5 c5] 42)) := (Below.refl _ _).alloc (Nat.le_refl _) _
          have hB4 := hB3.below hb4
          have hC3 : BxC bx 6 (.slice ma mn mc) w3 := ⟨by rw [Lib.cell_of_heap hB3.box]; rfl⟩
          have hC4 : BxC bx 6 (.slice ma mn mc) (w3.alloc (.cells #[.slice pa pn pc, .int .i64 k, .bool nt, .slice a1 n1 c1, .slice a2 n2 c2, .slice a3 n3 c3, .slice a4 n4 c4, .slice a5 n5 c5] 42)) := ⟨by rw [Lib.cell_of_heap hB4.box]; rfl⟩
          have hR4 : RowS (w3.alloc (.cells #[.slice pa pn pc, .int .i64 k, .bool nt, .slice a1 n1 c1, .slice a2 n2 c2, .slice a3 n3 c3, .slice a4 n4 c4, .slice a5 n5 c5] 42)) (KS w bx) 42 8 (.slice ma mn mc) mn (ac.flatMap armC) := (HM.out.2.row.kept fun g' hg' hl => g3.block g' hl fun e => by have h0 := Option.some.inj e; (try dsimp only at h0); have := hg'.1; omega).kept fun g' _ hl => hb4.block g' hl
          have hown := hR4.own
          have hnew : ∀ (j : Nat) u, ([.slice pa pn pc, .int .i64 k, .bool nt, .slice a1 n1 c1, .slice a2 n2 c2, .slice a3 n3 c3, .slice a4 n4 c4, .slice a5 n5 c5] : List Value)[j]? = some u → (w3.alloc (.cells #[.slice pa pn pc, .int .i64 k, .bool nt, .slice a1 n1 c1, .slice a2 n2 c2, .slice a3 n3 c3, .slice a4 n4 c4, .slice a5 n5 c5] 42)).cell? ((⟨w3.heap.size, 0, none⟩ : Addr).add j) = some u := fun j u hj => by rw [Addr.add_lit, Nat.zero_add, Lib.cell_of_heap (heap_alloc_new w3 _)]; simpa using hj
          have HJ := hide' (And.intro hB3 (And.intro g3 hAA))
          clear hB3 hB4 hR4 g3 h3 hb4 hp hAA
          dsimp only
          refine ⟨hC3, ?_⟩
          refine wpAnyX_one (i := 4) (by kernel_rfl) (wpOp_wanted rfl (by rfl) ?_)
          go_simp
          obtain ⟨inf, hi, hz0, hz1, hz2⟩ := info_parts infoArm
          refine wpAnyX_one (i := 5) (by kernel_rfl) (wpOp_wanted rfl (by rfl) ?_)
          refine wp_append_lies _ _ _ 26 rfl 0 42 inf _ 8 160 Tryz.underlying26 hi hz0 hz1 hz2 rfl (by decide) (.slice ma mn mc) mn (ac.flatMap armC) rfl hown ⟨w3.heap.size, 0, none⟩ 1 1 [.slice pa pn pc, .int .i64 k, .bool nt, .slice a1 n1 c1, .slice a2 n2 c2, .slice a3 n3 c3, .slice a4 n4 c4, .slice a5 n5 c5] rfl rfl hnew (by simp [Value.oneCell']) (by decide) (by unfold maxLen; omega) (by omega) (Nat.zero_le _) _ rfl ?_
          intro g cap w4 ho hg hat _
          clear hi hz0 hz1 hz2 hown hnew hC3 hC4
          obtain ⟨hB3, g3, hAA⟩ := HJ.out
          have hM6 : ArmsS w6.drew (KS w bx) (.slice ma mn mc) mn ac ar := HM.out.2.kept fun _ _ _ => rfl
          obtain ⟨hB4, hB5, hM5, hkp⟩ := push_arm (w2 := w6.drew) hB3 hM6 g3 hAl hlW hAA ho hg hat
          have hW5 : RowS (w4.setCell ⟨bx, 6, none⟩ (.slice (some ⟨g, 0, none⟩) (mn + 1) cap)) (KS w bx) 9 1 (.slice wa wn wc) wn ([nm].map fun x => Value.string (mk x)) := HM.out.1.keptO fun b e h1 h2 => hkp b h1 h2 (row_ne HM.out.1 HM.out.2.row (by decide) b e)
          have e5 : w4.cell? ⟨bx, 6, none⟩ = some (.slice ma mn mc) := by rw [Lib.cell_of_heap hB4.box]; rfl
          have f5 := Lib.frozen_of_heap hB4.box 6
          have hC5 : BxC bx 6 (.slice ma mn mc) w4 := ⟨e5⟩
          have HB5 := hide' (And.intro hB5 (And.intro hW5 hM5))
          clear hB3 hB4 hB5 hM5 hW5 hM6 g3 ho hg hat HJ HB HM hkp hAA
          refine ⟨fun _ => hC5, ?_⟩
          refine wpAnyX_one (i := 6) (by kernel_rfl) (wpOp_wanted rfl (by rfl) ?_)
          go_simp
          refine wpAnyX_one (i := 7) (by kernel_rfl) (wpOp_wanted rfl (by rfl) ?_)
          go_simp
          refine wpAnyX_done (by kernel_rfl) ?_ _
          clear hC5 e5 f5
          obtain ⟨w9, hw9⟩ : ∃ w9, w9 = w4.setCell ⟨bx, 6, none⟩ (.slice (some ⟨g, 0, none⟩) (mn + 1) cap) := ⟨_, rfl⟩
          rw [← hw9] at HB5 ⊢
          clear hw9
          go_wp2_with fail
          go_roundg gk'
          case rel => exact ⟨by omega, s9, some ⟨g, 0, none⟩, mn + 1, cap, _, _, HB5.out.1, HB5.out.2.1, HB5.out.2.2, by omega, HRN.out⟩
          case measure => omega
    · have q := want_no hB.ps [105, 110] hin
      obtain rfl : R = .bad := by rw [← HR2.out, wantP, if_neg hin]; rfl
      have HG := hide' hB.gr
      clear hB hRo hin HR2
      dsimp only
      go_wp2_with fail
      refine q.mono ?_
      rintro e w6 ⟨g3, b, p, rfl, hb⟩
      exact ⟨rfl, HG.out.trans g3, b, p, rfl, hb⟩
end Go.Proofs.YtcemlhfodpelaaaGreatDoor
