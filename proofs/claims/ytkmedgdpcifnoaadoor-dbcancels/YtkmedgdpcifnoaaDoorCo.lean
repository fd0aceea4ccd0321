/- The contract of db.counting. -/
import Derived.Test.YtkmedgdpcifnoaaDoorSh
import Derived.Test.YtkmedgdpcifnoaaDoorNo
import Derived.Deep.QuietTactic
import Derived.Deep.Cut
import Derived.Deep.CutBlock
namespace Go.Proofs.YtkmedgdpcifnoaaDoor
open Go.RowKit Go.Shelf

theorem lasP_snoc : ∀ (l : List Ru) (f : Lf) (i : Nat) (r : Ru), lasP f i (l ++ [r]) = lasS (lasP f i l) (i + l.length) r
  | [], _, _, _ => rfl
  | x :: l, f, i, r => by
    show lasP (lasS f i x) (i + 1) (l ++ [r]) = _
    rw [lasP_snoc l, List.length_cons, show i + 1 + l.length = i + (l.length + 1) by omega]
    rfl
theorem ownP_snoc (f : Lf) : ∀ (l : List Ru) (i : Nat) (r : Ru), ownP f i (l ++ [r]) = ownP f i l ++ ownP f (i + l.length) [r]
  | [], _, _ => rfl
  | x :: l, i, r => by
    show _ ++ ownP f (i + 1) (l ++ [r]) = (_ ++ ownP f (i + 1) l) ++ _
    rw [ownP_snoc f l, List.length_cons, show i + 1 + l.length = i + (l.length + 1) by omega, List.append_assoc]
theorem behP_snoc (f : Lf) (m : Nat) : ∀ (l : List Ru) (i : Nat) (r : Ru), behP f m i (l ++ [r]) = behP f m i l ++ behP f m (i + l.length) [r]
  | [], _, _ => rfl
  | x :: l, i, r => by
    show _ ++ behP f m (i + 1) (l ++ [r]) = (_ ++ behP f m (i + 1) l) ++ _
    rw [behP_snoc f m l, List.length_cons, show i + 1 + l.length = i + (l.length + 1) by omega, List.append_assoc]
theorem ownP_len (f : Lf) : ∀ (l : List Ru) (i : Nat), (ownP f i l).length ≤ l.length
  | [], _ => Nat.le_refl _
  | x :: l, i => by
    show (_ ++ ownP f (i + 1) l).length ≤ _
    have := ownP_len f l (i + 1)
    rw [List.length_append, List.length_cons]
    split <;> simp <;> omega
theorem behP_len (f : Lf) (m : Nat) : ∀ (l : List Ru) (i : Nat), (behP f m i l).length ≤ l.length
  | [], _ => Nat.le_refl _
  | x :: l, i => by
    show (_ ++ behP f m (i + 1) l).length ≤ _
    have := behP_len f m l (i + 1)
    rw [List.length_append, List.length_cons]
    split <;> simp <;> omega
def rs (L : List Rx) : List Ru := L.map (·.r)
theorem rs_len (L : List Rx) : (rs L).length = L.length := List.length_map ..
theorem take_rs (R : List Rx) (k : Nat) (h : k < R.length) : rs (R.take (k + 1)) = rs (R.take k) ++ [(R.getD k zeroRx).r] := by
  unfold rs
  rw [List.take_succ_eq_append_getElem h, List.map_append, List.getD_eq_getElem?_getD, List.getElem?_eq_getElem h]
  rfl
theorem ShAt.isMap {w : World} {M n : Nat} {kp : List Bs → Bs} {f : Lf} (h : ShAt w M n kp f) : ∃ es c, w.heap[M]? = some (.map es c) := by obtain ⟨D, ⟨es, c, hb, _⟩, _⟩ := h; exact ⟨es, c, hb⟩
theorem pak_fit {L : List Bs} (h1 : L.length ≤ 100000) (h2 : ∀ x ∈ L, x.length ≤ 1000000000) : (pakP L).length ≤ maxLen := by
  have := pakP_len L h2
  unfold maxLen
  omega
theorem ints_below {w w' : World} {B : Nat} {v : Value} {l : List Int} (h : w.ownsInts B 3 .i64 v l) (hb : Below w.heap.size w w') : w'.ownsInts B 3 .i64 v l := ⟨own_below h.1 hb, h.2⟩
/-- a place more in the list -/
theorem app_at {W w0 : World} {B M n : Nat} {F : Lf} {v : Value} {l : List Nat} (hS : ShAt W M n pakP F) (hO : W.ownsInts B 3 .i64 v (nI l)) (i : Nat) (hi : i ≤ 1000000000) (hl : l.length ≤ 1000000000) (hb : Below B w0 W) (hB0 : B ≤ w0.heap.size) :
    ∃ a m c w', (∀ ty : TypeId, (Builtin.append_ #[46, 46] ty #[v, .slice (some ⟨W.heap.size, 0, none⟩) 1 1]).run Tryd.prog (W.alloc (.cells #[.int .i64 i] 3)) = .ok (.slice a m c) w') ∧ w'.ownsInts B 3 .i64 (.slice a m c) (nI (l ++ [i])) ∧ ShAt w' M n pakP F ∧ Below B w0 w' := by
  have hB : B ≤ W.heap.size := Nat.le_trans hB0 hb.size
  obtain ⟨v', w', hr, ho, hg, _, a, m, c, rfl⟩ := app_int hO i hi hl hB
  obtain ⟨es, cc, hM⟩ := hS.isMap
  exact ⟨a, m, c, w', hr, ho, hS.block (hg.block M hS.lt (fun e => own_notmap hO.1 hM e.symm)), hb.grown hg hB (fun k hk => own_low hO.1 k hk)⟩
abbrev nF : Lf := fun _ _ => none
set_option maxRecDepth 100000 in
set_option maxHeartbeats 8000000 in
theorem counting_any (R1 R2 : List Rx) (ov bv : Value) (w : World) (hg : Glo w) (h1 : Rls w ov R1) (h2 : Rls w bv R2) (hl1 : R1.length ≤ 1000000) (hl2 : R2.length ≤ 1000000) (hf1 : ∀ x ∈ R1, FitR 1000000000 x.r) (hf2 : ∀ x ∈ R2, FitR 1000000000 x.r) :
    Calls Tryd.prog 35 #[ov, bv] w fun e w' => ∃ v, e = .returned v ∧ w'.ownsInts w.heap.size 3 .i64 v (nI (impP (rs R1) (rs R2))) ∧ Below w.heap.size w w' := by
  obtain ⟨a1, c1, rfl⟩ := h1.form
  obtain ⟨a2, c2, rfl⟩ := h2.form
  have hS0 := ShAt.made w pakP
  have mm := @run_makeMap Tryd.prog
  have hB0 : Below w.heap.size w (w.alloc (.map #[] 0)) := below_alloc (Below.refl _ w) (Nat.le_refl _) _
  have H1 := hide' h1
  have H2 := hide' h2
  have HF1 := hide' hf1
  have HF2 := hide' hf2
  have HG := hide' hg
  clear h1 h2 hf1 hf2 hg
  go_enter Tryd.func35, Tryd.ntmps35
  go_wp2
  clear mm
  generalize w.alloc (.map #[] 0) = w0 at hS0 hB0 ⊢
  obtain ⟨M, hM⟩ : ∃ M, M = w.heap.size := ⟨_, rfl⟩
  have hBM : w.heap.size ≤ M := by omega
  rw [← hM] at hS0 ⊢
  clear hM
  go_loopw [18] (fun i wr => ∃ (k n : Nat), k ≤ R1.length ∧ i = .int .i64 k ∧ n ≤ k ∧ ShAt wr M n pakP (lasP nF 0 (rs (R1.take k))) ∧ Below w.heap.size w wr) (fun i _ => R1.length - (intOf i).toNat)
  case atStart => exact ⟨0, 0, Nat.zero_le _, rfl, Nat.le_refl _, hS0, hB0⟩
  case round =>
    clear hS0 hB0
    obtain ⟨k, n, hk, rfl, hn, hS, hB⟩ := hrel
    have hsz := hB.size
    by_cases hlt : k < R1.length
    · rcases H1.out.1 with ⟨_, _, _, e0⟩ | ⟨b1, o1, c1', e0, hb1, h4⟩
      · rw [e0] at hlt; exact absurd hlt (by simp)
      simp only [Value.slice.injEq, true_and] at e0
      obtain ⟨rfl, rfl⟩ := e0
      have cc := (h4 k hlt).block (hB.block b1 hb1)
      have hmem : R1.getD k zeroRx ∈ R1 := by rw [List.getD_eq_getElem?_getD, List.getElem?_eq_getElem hlt]; exact List.getElem_mem hlt
      have hx := HF1.out _ hmem
      have hxs := (H1.out.2 _ hmem).below hB
      clear h4 hmem
      obtain ⟨x, hxe⟩ : ∃ x, R1.getD k zeroRx = x := ⟨_, rfl⟩
      rw [hxe] at cc hx hxs
      obtain ⟨⟨tts, tps, tos, tdbl, tpat, tter, tsta, trcp, thas, taga, tblt⟩, va, vb, vc, vd⟩ := x
      obtain ⟨s0, s1, s2, s3⟩ := hxs
      simp only at s0 s1 s2 s3 hx
      obtain ⟨aa, na, ca, rfl⟩ := s0.form3
      obtain ⟨ab, nb, cb, rfl⟩ := s1.form3
      obtain ⟨ac, nc, cc', rfl⟩ := s2.form3
      obtain ⟨ad, nd, cd, rfl⟩ := s3.form3
      obtain ⟨f0, f1, f2, f3, m0, m1, m2, m3, m4, m5⟩ := hx
      simp only at f0 f1 m0 m1
      obtain ⟨q0, q1, q2, q3, q4, q5, q6, q7, q8, q9, q10⟩ := cc
      simp only at q0 q1 q2 q3 q4 q5 q6 q7 q8 q9 q10
      obtain ⟨sta, hsta⟩ : ∃ sta, sta = mk tsta := ⟨_, rfl⟩
      obtain ⟨aga, haga⟩ : ∃ aga, aga = mk taga := ⟨_, rfl⟩
      rw [← hsta] at q6
      rw [← haga] at q9
      have kS := fun W (hW : Below wr.heap.size wr W) => shapeOf_any tts tps aa ab ac ad na nb nc nd ca cb cc' cd tdbl tpat tter thas tblt sta aga W (HG.out.below (hB.trans (hW.mono hsz))) (s0.below hW) (s1.below hW) f0 f1 m0 m1
      have hxe := hide' hxe
      have HF := hide' (And.intro f0 (And.intro f1 (And.intro m0 m1)))
      have HST := hide' (And.intro hsta haga)
      have HS0 := hide' hS
      clear hsta haga s0 s1 s2 s3 f0 f1 f2 f3 m0 m1 m2 m3 m4 m5 hS
      go_upto_region 6 with fail
      have hX : Bx11 (wr.alloc (.cells #[.slice aa na ca, .slice ab nb cb, .slice ac nc cc', .bool tdbl, .bool tpat, .bool tter, .string sta, .slice ad nd cd, .bool thas, .string aga, .bool tblt] 43)) wr.heap.size (.slice aa na ca) (.slice ab nb cb) (.slice ac nc cc') (.bool tdbl) (.bool tpat) (.bool tter) (.string sta) (.slice ad nd cd) (.bool thas) (.string aga) (.bool tblt) := bx11_at wr (.slice aa na ca) (.slice ab nb cb) (.slice ac nc cc') (.bool tdbl) (.bool tpat) (.bool tter) (.string sta) (.slice ad nd cd) (.bool thas) (.string aga) (.bool tblt)
      have hb2 : Below wr.heap.size wr (wr.alloc (.cells #[.slice aa na ca, .slice ab nb cb, .slice ac nc cc', .bool tdbl, .bool tpat, .bool tter, .string sta, .slice ad nd cd, .bool thas, .string aga, .bool tblt] 43)) := (Below.refl _ wr).alloc (Nat.le_refl _) _
      replace kS := kS _ hb2
      generalize wr.alloc (.cells #[.slice aa na ca, .slice ab nb cb, .slice ac nc cc', .bool tdbl, .bool tpat, .bool tter, .string sta, .slice ad nd cd, .bool thas, .string aga, .bool tblt] 43) = w2 at hX hb2 kS ⊢
      have hB2 := hB.trans (hb2.mono hsz)
      have kS := fun W (hW : W = w2) => hW ▸ kS
      clear q0 q1 q2 q3 q4 q5 q6 q7 q8 q9 q10
      have hAX : wr.heap.size < w2.heap.size := hX.lt
      generalize wr.heap.size = AX at hX hAX ⊢
      have hS := HS0.out
      clear HS0
      have HT : Hid (lasP nF 0 (rs (R1.take (k + 1))) = lasS (lasP nF 0 (rs (R1.take k))) k ⟨tts, tps, tos, tdbl, tpat, tter, tsta, trcp, thas, taga, tblt⟩) := by
        show _ = _
        rw [take_rs R1 k hlt, lasP_snoc, rs_len, List.length_take, Nat.zero_add, Nat.min_eq_left hk, hxe.out]
      generalize lasP nF 0 (rs (R1.take k)) = F at hS HT
      cases htp : tpat with
      | false =>
        have HT1 : Hid (F = lasP nF 0 (rs (R1.take (k + 1)))) := by
          show _ = _
          rw [HT.out]
          unfold lasS
          rw [htp]
          simp only [Bool.false_eq_true, if_false]
        rw [htp] at hX
        have x4 := hX.c4
        have hS2 := HT1.out ▸ hS.below hb2
        have HS2 := hide' hS2
        clear hX hS hS2 htp HT HT1 kS
        go_wp2
        exact ⟨⟨k + 1, n, by omega, by go_num, by omega, HS2.out, hB2⟩, by simp [intOf]; omega⟩
      | true =>
        have HT1 : Hid ((fun c d => if c = tts ∧ d = tps then some k else F c d) = lasP nF 0 (rs (R1.take (k + 1)))) := by
          show _ = _
          rw [HT.out]
          unfold lasS
          rw [htp]
          simp only [if_true]
        rw [htp] at hX kS
        have hS2 := hS.below hb2
        have x0 := hX.c0
        have x1 := hX.c1
        have x2 := hX.c2
        have x3 := hX.c3
        have x4 := hX.c4
        have x5 := hX.c5
        have x6 := hX.c6
        have x7 := hX.c7
        have x8 := hX.c8
        have x9 := hX.c9
        have x10 := hX.c10
        have HS2 := hide' hS2
        have HX := hide' hX
        clear hX hS hS2 htp HT
        go_wp2_with fail
        refine (kS _ rfl).mono ?_
        rintro e w3 ⟨rfl, hb3⟩
        have hS3 := HS2.out.below hb3
        have hB3 := hB2.trans (hb3.mono hB2.size)
        obtain ⟨w4, hr, hS4, hg4⟩ := hS3.put pakP_inj (by omega) tts tps (pak_fit HF.out.1 HF.out.2.2.1) (pak_fit HF.out.2.1 HF.out.2.2.2) k (by omega)
        have hB4 := hB3.grown hg4 hB3.size (fun j hj => by cases hj; exact hBM)
        have HS4 := hide' hS4
        clear hS3 kS HX HS2 hS4
        dsimp only
        have HS5 : Hid (ShAt w4 M (n + 1) pakP (lasP nF 0 (rs (R1.take (k + 1))))) := HT1.out ▸ HS4.out
        clear HS4 HT1 HF HST hg4 hb3 hB3 hB2 hb2
        go_wp2_with (at_mapUpdate; refine wpList_upd rfl _ _ _ 96 rfl hr ?_)
        exact ⟨⟨k + 1, n + 1, by omega, by go_num, by omega, HS5.out, hB4⟩, by simp [intOf]; omega⟩
    · have hke : R1.take k = R1 := List.take_of_length_le (by omega)
      rw [hke] at hS
      clear hke
      generalize hF : lasP nF 0 (rs R1) = F at hS
      have HFF := hide' hF
      clear hF
      go_wp2
      go_loopw [32, 5] (fun i l wr => ∃ (k : Nat), k ≤ R1.length ∧ i = .int .i64 k ∧ ShAt wr M n pakP F ∧ wr.ownsInts w.heap.size 3 .i64 l (nI (ownP F 0 (rs (R1.take k)))) ∧ Below w.heap.size w wr) (fun i _ _ => R1.length - (intOf i).toNat)
      case atStart => exact ⟨0, Nat.zero_le _, rfl, hS, World.ownsInts_nil _ _ _ _, hB⟩
      case round =>
        clear hS hB hsz
        obtain ⟨j, hj, rfl, hS, hO, hB⟩ := hrel
        have hsz := hB.size
        by_cases hlt : j < R1.length
        · rcases H1.out.1 with ⟨_, _, _, e0⟩ | ⟨b1, o1, c1', e0, hb1, h4⟩
          · rw [e0] at hlt; exact absurd hlt (by simp)
          simp only [Value.slice.injEq, true_and] at e0
          obtain ⟨rfl, rfl⟩ := e0
          have cc := (h4 j hlt).block (hB.block b1 hb1)
          have hmem : R1.getD j zeroRx ∈ R1 := by rw [List.getD_eq_getElem?_getD, List.getElem?_eq_getElem hlt]; exact List.getElem_mem hlt
          have hx := HF1.out _ hmem
          have hxs := (H1.out.2 _ hmem).below hB
          clear h4 hmem
          obtain ⟨x, hxe⟩ : ∃ x, R1.getD j zeroRx = x := ⟨_, rfl⟩
          rw [hxe] at cc hx hxs
          obtain ⟨⟨tts, tps, tos, tdbl, tpat, tter, tsta, trcp, thas, taga, tblt⟩, va, vb, vc, vd⟩ := x
          obtain ⟨s0, s1, s2, s3⟩ := hxs
          simp only at s0 s1 s2 s3 hx
          obtain ⟨aa, na, ca, rfl⟩ := s0.form3
          obtain ⟨ab, nb, cb, rfl⟩ := s1.form3
          obtain ⟨ac, nc, cc', rfl⟩ := s2.form3
          obtain ⟨ad, nd, cd, rfl⟩ := s3.form3
          obtain ⟨f0, f1, f2, f3, m0, m1, m2, m3, m4, m5⟩ := hx
          simp only at f0 f1 m0 m1
          obtain ⟨q0, q1, q2, q3, q4, q5, q6, q7, q8, q9, q10⟩ := cc
          simp only at q0 q1 q2 q3 q4 q5 q6 q7 q8 q9 q10
          obtain ⟨sta, hsta⟩ : ∃ sta, sta = mk tsta := ⟨_, rfl⟩
          obtain ⟨aga, haga⟩ : ∃ aga, aga = mk taga := ⟨_, rfl⟩
          rw [← hsta] at q6
          rw [← haga] at q9
          have kS := fun W (hW : Below wr.heap.size wr W) => shapeOf_any tts tps aa ab ac ad na nb nc nd ca cb cc' cd tdbl tpat tter thas tblt sta aga W (HG.out.below (hB.trans (hW.mono hsz))) (s0.below hW) (s1.below hW) f0 f1 m0 m1
          have hxe := hide' hxe
          have HF := hide' (And.intro f0 (And.intro f1 (And.intro m0 m1)))
          have HST := hide' (And.intro hsta haga)
          have HS0 := hide' hS
          clear hsta haga s0 s1 s2 s3 f0 f1 f2 f3 m0 m1 m2 m3 m4 m5 hS
          go_upto_region 12 with fail
          have hX : Bx11 (wr.alloc (.cells #[.slice aa na ca, .slice ab nb cb, .slice ac nc cc', .bool tdbl, .bool tpat, .bool tter, .string sta, .slice ad nd cd, .bool thas, .string aga, .bool tblt] 43)) wr.heap.size (.slice aa na ca) (.slice ab nb cb) (.slice ac nc cc') (.bool tdbl) (.bool tpat) (.bool tter) (.string sta) (.slice ad nd cd) (.bool thas) (.string aga) (.bool tblt) := bx11_at wr (.slice aa na ca) (.slice ab nb cb) (.slice ac nc cc') (.bool tdbl) (.bool tpat) (.bool tter) (.string sta) (.slice ad nd cd) (.bool thas) (.string aga) (.bool tblt)
          have hb2 : Below wr.heap.size wr (wr.alloc (.cells #[.slice aa na ca, .slice ab nb cb, .slice ac nc cc', .bool tdbl, .bool tpat, .bool tter, .string sta, .slice ad nd cd, .bool thas, .string aga, .bool tblt] 43)) := (Below.refl _ wr).alloc (Nat.le_refl _) _
          replace kS := kS _ hb2
          generalize wr.alloc (.cells #[.slice aa na ca, .slice ab nb cb, .slice ac nc cc', .bool tdbl, .bool tpat, .bool tter, .string sta, .slice ad nd cd, .bool thas, .string aga, .bool tblt] 43) = w2 at hX hb2 kS ⊢
          have hB2 := hB.trans (hb2.mono hsz)
          have kS := fun W (hW : W = w2) => hW ▸ kS
          clear q0 q1 q2 q3 q4 q5 q6 q7 q8 q9 q10
          have hAX : wr.heap.size < w2.heap.size := hX.lt
          generalize wr.heap.size = AX at hX hAX ⊢
          have hS := HS0.out
          clear HS0
          have HT : Hid (ownP F 0 (rs (R1.take (j + 1))) = ownP F 0 (rs (R1.take j)) ++ (if tpat && thas && ((F tts tps).getD 0 == j) then [j] else [])) := by
            show _ = _
            rw [take_rs R1 j hlt, ownP_snoc, rs_len, List.length_take, Nat.zero_add, Nat.min_eq_left hj, hxe.out]
            simp only [ownP, List.append_nil]
          cases htp : tpat with
          | false =>
            have HT1 : Hid (ownP F 0 (rs (R1.take j)) = ownP F 0 (rs (R1.take (j + 1)))) := by
              show _ = _
              rw [HT.out, htp]
              simp
            rw [htp] at hX
            have x4 := hX.c4
            have hO2 := HT1.out ▸ ints_below hO hb2
            have HS2 := hide' (And.intro (hS.below hb2) hO2)
            clear hX hS htp HT HT1 kS hO hO2
            go_wp2
            exact ⟨⟨j + 1, by omega, by go_num, HS2.out.1, HS2.out.2, hB2⟩, by simp [intOf]; omega⟩
          | true =>
            cases hth : thas with
            | false =>
              have HT1 : Hid (ownP F 0 (rs (R1.take j)) = ownP F 0 (rs (R1.take (j + 1)))) := by
                show _ = _
                rw [HT.out, htp, hth]
                simp
              rw [htp, hth] at hX
              have x4 := hX.c4
              have x8 := hX.c8
              have hO2 := HT1.out ▸ ints_below hO hb2
              have HS2 := hide' (And.intro (hS.below hb2) hO2)
              clear hX hS htp hth HT HT1 kS hO hO2
              go_wp2
              exact ⟨⟨j + 1, by omega, by go_num, HS2.out.1, HS2.out.2, hB2⟩, by simp [intOf]; omega⟩
            | true =>
              rw [htp, hth] at hX kS HT
              have x0 := hX.c0
              have x1 := hX.c1
              have x2 := hX.c2
              have x3 := hX.c3
              have x4 := hX.c4
              have x5 := hX.c5
              have x6 := hX.c6
              have x7 := hX.c7
              have x8 := hX.c8
              have x9 := hX.c9
              have x10 := hX.c10
              have HS2 := hide' (And.intro (hS.below hb2) (ints_below hO hb2))
              clear hX hS htp hth hO
              go_wp2_with fail
              refine (kS _ rfl).mono ?_
              rintro e w3 ⟨rfl, hb3⟩
              have hB3 := hB2.trans (hb3.mono hB2.size)
              have hS3 := HS2.out.1.below hb3
              have hO3 := ints_below HS2.out.2 hb3
              have hl := hS3.look tts tps (pak_fit HF.out.1 HF.out.2.2.1) (pak_fit HF.out.2.1 HF.out.2.2.2)
              clear x0 x1 x2 x3 x4 x5 x6 x7 x8 x9 x10 kS HS2 hb2 hB2 hb3
              dsimp only
              have hol : (ownP F 0 (rs (R1.take j))).length ≤ 1000000 := by
                have := ownP_len F (rs (R1.take j)) 0
                rw [rs_len, List.length_take] at this
                omega
              have HH := HT.out
              generalize (F tts tps).getD 0 = X at hl HH
              generalize ownP F 0 (rs (R1.take j)) = l0 at hO3 HH hol
              generalize hV (pakP tts) (pakP tps) = hvv at hl ⊢
              clear HT HF HST hxe
              by_cases hXj : X = j
              · have HT1 : Hid (l0 ++ [j] = ownP F 0 (rs (R1.take (j + 1)))) := by
                  show _ = _
                  rw [HH, hXj]
                  simp
                have he : ((X : Int) == (j : Int)) = true := by rw [hXj]; simp
                obtain ⟨ga, gm, gc, w4, hrun, hO4, hS4, hB4⟩ := app_at hS3 hO3 j (by omega) (by omega) hB3 (Nat.le_refl _)
                have HS4 := hide' (And.intro hS4 (HT1.out ▸ hO4))
                clear HH hO4 hS4 hS3 hO3 HT1 hXj hB3 hol
                go_wp2_with (at_builtin; refine wpList_app_run rfl _ _ 46 rfl _ _ _ _ rfl rfl hrun ?_)
                exact ⟨⟨j + 1, by omega, by go_num, HS4.out.1, HS4.out.2, hB4⟩, by simp [intOf]; omega⟩
              · have HT1 : Hid (l0 = ownP F 0 (rs (R1.take (j + 1)))) := by
                  show _ = _
                  rw [HH]
                  simp [hXj]
                have he : ((X : Int) == (j : Int)) = false := by simp; omega
                have HS4 := hide' (And.intro hS3 (HT1.out ▸ hO3))
                clear HH hS3 hO3 HT1 hXj hol
                go_wp2
                exact ⟨⟨j + 1, by omega, by go_num, HS4.out.1, HS4.out.2, hB3⟩, by simp [intOf]; omega⟩
        · have hke : R1.take j = R1 := List.take_of_length_le (by omega)
          rw [hke] at hO
          clear hke
          have hol : (ownP F 0 (rs R1)).length ≤ 1000000 := by
            have := ownP_len F (rs R1) 0
            rw [rs_len] at this
            omega
          generalize hL2 : ownP F 0 (rs R1) = L2 at hO hol
          have HL2 := hide' hL2
          clear hL2
          obtain ⟨la, ln, lc, rfl⟩ := own_form3 hO.1
          have hO0 := hO
          have hle0 : L2 = L2 ++ behP F R1.length 0 (rs (R2.take 0)) := by simp [rs, behP]
          rw [hle0] at hO0
          clear hle0 hO
          go_wp2
          go_loopw [58, 5] (fun i l wr => ∃ (k : Nat), k ≤ R2.length ∧ i = .int .i64 k ∧ ShAt wr M n pakP F ∧ wr.ownsInts w.heap.size 3 .i64 l (nI (L2 ++ behP F R1.length 0 (rs (R2.take k)))) ∧ Below w.heap.size w wr) (fun i _ _ => R2.length - (intOf i).toNat)
          case atStart => exact ⟨0, Nat.zero_le _, rfl, hS, hO0, hB⟩
          case round =>
            clear hS hB hsz hO0
            obtain ⟨m, hm, rfl, hS, hO, hB⟩ := hrel
            have hsz := hB.size
            by_cases hlt : m < R2.length
            · rcases H2.out.1 with ⟨_, _, _, e0⟩ | ⟨b1, o1, c1', e0, hb1, h4⟩
              · rw [e0] at hlt; exact absurd hlt (by simp)
              simp only [Value.slice.injEq, true_and] at e0
              obtain ⟨rfl, rfl⟩ := e0
              have cc := (h4 m hlt).block (hB.block b1 hb1)
              have hmem : R2.getD m zeroRx ∈ R2 := by rw [List.getD_eq_getElem?_getD, List.getElem?_eq_getElem hlt]; exact List.getElem_mem hlt
              have hx := HF2.out _ hmem
              have hxs := (H2.out.2 _ hmem).below hB
              clear h4 hmem
              obtain ⟨x, hxe⟩ : ∃ x, R2.getD m zeroRx = x := ⟨_, rfl⟩
              rw [hxe] at cc hx hxs
              obtain ⟨⟨tts, tps, tos, tdbl, tpat, tter, tsta, trcp, thas, taga, tblt⟩, va, vb, vc, vd⟩ := x
              obtain ⟨s0, s1, s2, s3⟩ := hxs
              simp only at s0 s1 s2 s3 hx
              obtain ⟨aa, na, ca, rfl⟩ := s0.form3
              obtain ⟨ab, nb, cb, rfl⟩ := s1.form3
              obtain ⟨ac, nc, cc', rfl⟩ := s2.form3
              obtain ⟨ad, nd, cd, rfl⟩ := s3.form3
              obtain ⟨f0, f1, f2, f3, m0, m1, m2, m3, m4, m5⟩ := hx
              simp only at f0 f1 m0 m1
              obtain ⟨q0, q1, q2, q3, q4, q5, q6, q7, q8, q9, q10⟩ := cc
              simp only at q0 q1 q2 q3 q4 q5 q6 q7 q8 q9 q10
              obtain ⟨sta, hsta⟩ : ∃ sta, sta = mk tsta := ⟨_, rfl⟩
              obtain ⟨aga, haga⟩ : ∃ aga, aga = mk taga := ⟨_, rfl⟩
              rw [← hsta] at q6
              rw [← haga] at q9
              have kS := fun W (hW : Below wr.heap.size wr W) => shapeOf_any tts tps aa ab ac ad na nb nc nd ca cb cc' cd tdbl tpat tter thas tblt sta aga W (HG.out.below (hB.trans (hW.mono hsz))) (s0.below hW) (s1.below hW) f0 f1 m0 m1
              have hxe := hide' hxe
              have HF := hide' (And.intro f0 (And.intro f1 (And.intro m0 m1)))
              have HST := hide' (And.intro hsta haga)
              have HS0 := hide' hS
              clear hsta haga s0 s1 s2 s3 f0 f1 f2 f3 m0 m1 m2 m3 m4 m5 hS
              go_upto_region 18 with fail
              have hX : Bx11 (wr.alloc (.cells #[.slice aa na ca, .slice ab nb cb, .slice ac nc cc', .bool tdbl, .bool tpat, .bool tter, .string sta, .slice ad nd cd, .bool thas, .string aga, .bool tblt] 43)) wr.heap.size (.slice aa na ca) (.slice ab nb cb) (.slice ac nc cc') (.bool tdbl) (.bool tpat) (.bool tter) (.string sta) (.slice ad nd cd) (.bool thas) (.string aga) (.bool tblt) := bx11_at wr (.slice aa na ca) (.slice ab nb cb) (.slice ac nc cc') (.bool tdbl) (.bool tpat) (.bool tter) (.string sta) (.slice ad nd cd) (.bool thas) (.string aga) (.bool tblt)
              have hb2 : Below wr.heap.size wr (wr.alloc (.cells #[.slice aa na ca, .slice ab nb cb, .slice ac nc cc', .bool tdbl, .bool tpat, .bool tter, .string sta, .slice ad nd cd, .bool thas, .string aga, .bool tblt] 43)) := (Below.refl _ wr).alloc (Nat.le_refl _) _
              replace kS := kS _ hb2
              generalize wr.alloc (.cells #[.slice aa na ca, .slice ab nb cb, .slice ac nc cc', .bool tdbl, .bool tpat, .bool tter, .string sta, .slice ad nd cd, .bool thas, .string aga, .bool tblt] 43) = w2 at hX hb2 kS ⊢
              have hB2 := hB.trans (hb2.mono hsz)
              have kS := fun W (hW : W = w2) => hW ▸ kS
              clear q0 q1 q2 q3 q4 q5 q6 q7 q8 q9 q10
              have hAX : wr.heap.size < w2.heap.size := hX.lt
              generalize wr.heap.size = AX at hX hAX ⊢
              have hS := HS0.out
              clear HS0
              have HT : Hid (behP F R1.length 0 (rs (R2.take (m + 1))) = behP F R1.length 0 (rs (R2.take m)) ++ (if (F tts tps).isSome then [] else [R1.length + m])) := by
                show _ = _
                rw [take_rs R2 m hlt, behP_snoc, rs_len, List.length_take, Nat.zero_add, Nat.min_eq_left hm, hxe.out]
                simp only [behP, List.append_nil]
              have x0 := hX.c0
              have x1 := hX.c1
              have x2 := hX.c2
              have x3 := hX.c3
              have x4 := hX.c4
              have x5 := hX.c5
              have x6 := hX.c6
              have x7 := hX.c7
              have x8 := hX.c8
              have x9 := hX.c9
              have x10 := hX.c10
              have HS2 := hide' (And.intro (hS.below hb2) (ints_below hO hb2))
              clear hX hS hO
              go_wp2_with fail
              refine (kS _ rfl).mono ?_
              rintro e w3 ⟨rfl, hb3⟩
              have hB3 := hB2.trans (hb3.mono hB2.size)
              have hS3 := HS2.out.1.below hb3
              have hO3 := ints_below HS2.out.2 hb3
              have hl := hS3.look2 tts tps (pak_fit HF.out.1 HF.out.2.2.1) (pak_fit HF.out.2.1 HF.out.2.2.2)
              clear x0 x1 x2 x3 x4 x5 x6 x7 x8 x9 x10 kS HS2 hb2 hB2 hb3
              dsimp only
              have hbl : (behP F R1.length 0 (rs (R2.take m))).length ≤ 1000000 := by
                have := behP_len F R1.length (rs (R2.take m)) 0
                rw [rs_len, List.length_take] at this
                omega
              have HH := HT.out
              generalize (F tts tps).getD 0 = X at hl
              generalize (F tts tps).isSome = Y at hl HH
              generalize behP F R1.length 0 (rs (R2.take m)) = l0 at hO3 HH hbl
              generalize hV (pakP tts) (pakP tps) = hvv at hl ⊢
              clear HT HF HST hxe
              cases hY : Y with
              | true =>
                have HT1 : Hid (L2 ++ l0 = L2 ++ behP F R1.length 0 (rs (R2.take (m + 1)))) := by
                  show _ = _
                  rw [HH, hY]
                  simp
                rw [hY] at hl
                have HS4 := hide' (And.intro hS3 (HT1.out ▸ hO3))
                clear HH hS3 hO3 HT1 hY hbl hol
                go_wp2
                exact ⟨⟨m + 1, by omega, by go_num, HS4.out.1, HS4.out.2, hB3⟩, by simp [intOf]; omega⟩
              | false =>
                have HT1 : Hid ((L2 ++ l0) ++ [R1.length + m] = L2 ++ behP F R1.length 0 (rs (R2.take (m + 1)))) := by
                  show _ = _
                  rw [HH, hY]
                  simp
                rw [hY] at hl
                obtain ⟨ga, gm, gc, w4, hrun, hO4, hS4, hB4⟩ := app_at hS3 hO3 (R1.length + m) (by omega) (by rw [List.length_append]; omega) hB3 (Nat.le_refl _)
                have HS4 := hide' (And.intro hS4 (HT1.out ▸ hO4))
                simp only [Int.natCast_add] at hrun
                clear HH hO4 hS4 hS3 hO3 HT1 hY hB3 hbl hol
                go_wp2_with (at_builtin; refine wpList_app_run rfl _ _ 46 rfl _ _ _ _ rfl rfl hrun ?_)
                exact ⟨⟨m + 1, by omega, by go_num, HS4.out.1, HS4.out.2, hB4⟩, by simp [intOf]; omega⟩
            · have hke : R2.take m = R2 := List.take_of_length_le (by omega)
              rw [hke] at hO
              obtain ⟨za, zn, zc, rfl⟩ := own_form3 hO.1
              have hres : L2 ++ behP F R1.length 0 (rs R2) = impP (rs R1) (rs R2) := by
                unfold impP
                dsimp only
                rw [HFF.out, HL2.out, rs_len]
              rw [hres] at hO
              have HO := hide' hO
              clear hres hke hO hS
              go_wp2
              go_ret
              exact ⟨_, rfl, HO.out, hB⟩
end Go.Proofs.YtkmedgdpcifnoaaDoor
