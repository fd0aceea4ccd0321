/- The contract of a piece's member. -/
import Derived.Test.YtcijjigafcpcpaaGreatDoorNm
namespace Go.Proofs.YtcijjigafcpcpaaGreatDoor
open Go.RowKit Go.Maps Go.Shelf

theorem pname_any (c0 c1 c2 c3 c4 c5 : Bs) (tv : Value) (t : Bs) (w : World) (da : Option Addr) (dn dc : Nat) (hl : c0.length ≤ 16) (hE : EvS w) (h3 : 3 < w.heap.size) (hnn : t.length ≤ 100000) (hT : Tbs w tv t) (hM : Mx w) :
    Calls Tryz.prog 54 #[pcv c0 c1 c2 c3 c4 c5 (.slice da dn dc), tv] w fun r w' => Below w.heap.size w w' ∧ NmR c0 t r := by
  cases hp : Lib.hasPrefix c0 [47] with
  | false => exact name_sh c0 c1 c2 c3 c4 c5 tv t w da dn dc hl hp
  | true =>
    rcases hT with ⟨rfl, rfl⟩ | ⟨a, n, cap, rfl, hn, hc, hr⟩
    · exact name_lg c0 c1 c2 c3 c4 c5 none 0 0 [] w da dn dc hl hp hE h3 rfl (by omega) (.inl ⟨rfl, rfl⟩) (Nat.le_refl _) hM
    · exact name_lg c0 c1 c2 c3 c4 c5 (some a) n cap t w da dn dc hl hp hE h3 hn (by omega) (.inr ⟨a, n, cap, rfl, hn, hc, hr⟩) hc hM
/-- a member's three ends -/
def MbR (c0 c1 t x : Bs) (B : Nat) (w' : World) (r : Ending) : Prop := match nameP c0 t, valP c1 with
  | some nm, some v => ∃ dv, r = .returned (.tuple #[.agg #[.string (mk nm), .int .i64 (v : Nat), dv], .bool true]) ∧ Dat w' dv x ∧ OwnB B dv
  | _, _ => r = .returned (.tuple #[.agg #[.string ⟨#[]⟩, .int .i64 0, .slice none 0 0], .bool false])
theorem mb_none1 {c0 c1 t x : Bs} {B : Nat} {w' : World} {r : Ending} (h : nameP c0 t = none) (hr : r = .returned (.tuple #[.agg #[.string ⟨#[]⟩, .int .i64 0, .slice none 0 0], .bool false])) : MbR c0 c1 t x B w' r := by
  unfold MbR; rw [h]; exact hr
theorem mb_none2 {c0 c1 t x : Bs} {B : Nat} {w' : World} {r : Ending} (h : valP c1 = none) (hr : r = .returned (.tuple #[.agg #[.string ⟨#[]⟩, .int .i64 0, .slice none 0 0], .bool false])) : MbR c0 c1 t x B w' r := by
  unfold MbR; rw [h]
  cases nameP c0 t <;> exact hr
theorem mb_some {c0 c1 t x nm : Bs} {v B : Nat} {w' : World} {r : Ending} (h : nameP c0 t = some nm) (h2 : valP c1 = some v) (hr : ∃ dv, r = .returned (.tuple #[.agg #[.string (mk nm), .int .i64 (v : Nat), dv], .bool true]) ∧ Dat w' dv x ∧ OwnB B dv) : MbR c0 c1 t x B w' r := by
  unfold MbR; rw [h, h2]; exact hr
/-- a member's variable, written over -/
theorem three_set {W : World} {P : Nat} {a b c : Value} (h : W.heap[P]? = some (.cells #[a, b, c] 37 (0, 0))) (x y z : Value) : (((W.setCell ⟨P, 0, none⟩ x).setCell ⟨P, 1, none⟩ y).setCell ⟨P, 2, none⟩ z).heap[P]? = some (.cells #[x, y, z] 37 (0, 0)) := by
  have one : ∀ (W : World) (cs : Array Value) (k : Nat) (v : Value), W.heap[P]? = some (.cells cs 37 (0, 0)) → (W.setCell ⟨P, k, none⟩ v).heap[P]? = some (.cells (cs.setIfInBounds k v) 37 (0, 0)) := by
    intro W cs k v h
    have hlt := lt_of_block h
    have h' : W.heap[P] = .cells cs 37 (0, 0) := by simpa [Array.getElem?_eq_getElem hlt] using h
    show (W.heap.modify P _)[P]? = _
    rw [Array.getElem?_eq_getElem (by simpa using hlt), Array.getElem_modify_self, h']
    rfl
  have h1 := one W _ 0 x h
  have h2 := one _ _ 1 y h1
  have h3 := one _ _ 2 z h2
  simpa using h3
theorem below_three {w W : World} {P : Nat} (h : Below w.heap.size w W) (hP : w.heap.size ≤ P) (x y z : Value) : Below w.heap.size w (((W.setCell ⟨P, 0, none⟩ x).setCell ⟨P, 1, none⟩ y).setCell ⟨P, 2, none⟩ z) :=
  below_one (below_one (below_one h hP 0 x) hP 1 y) hP 2 z
theorem three_other {W : World} {P g : Nat} (hg : g ≠ P) (x y z : Value) : (((W.setCell ⟨P, 0, none⟩ x).setCell ⟨P, 1, none⟩ y).setCell ⟨P, 2, none⟩ z).heap[g]? = W.heap[g]? := by
  have one : ∀ (W : World) (k : Nat) (v : Value), (W.setCell ⟨P, k, none⟩ v).heap[g]? = W.heap[g]? := by
    intro W k v
    show (W.heap.modify P _)[g]? = _
    rw [Array.getElem?_modify]
    rw [if_neg (fun e => hg e.symm)]
  rw [one, one, one]
theorem cutl (s p : Bs) : (Lib.cut s p).1.length ≤ s.length := by
  unfold Lib.cut
  split
  · exact List.length_take_le' _ _
  · exact Nat.le_refl _
theorem nameP_len {c t nm : Bs} (h : nameP c t = some nm) : nm.length ≤ c.length + t.length := by
  unfold nameP at h
  split at h
  · cases hv : valP (c.drop 1) with
    | none => rw [hv] at h; cases h
    | some k =>
      rw [hv] at h
      dsimp only at h
      split at h
      · split at h
        · have e := Option.some.inj h
          subst e
          have := cutl (t.drop k) [47, 10]
          have := List.length_drop (i := k) (l := t)
          omega
        · cases h
      · cases h
  · split at h
    · have e := Option.some.inj h
      subst e
      have := List.length_take_le (c.length - 1) c
      omega
    · cases h
set_option maxRecDepth 100000 in
set_option maxHeartbeats 2000000 in
theorem member_any (c0 c1 c2 c3 c4 c5 : Bs) (dv tv : Value) (x t : Bs) (w : World) (hd : Bsl w dv x) (hl : c0.length ≤ 16) (hl1 : c1.length ≤ 16) (hE : EvS w) (h3 : 3 < w.heap.size) (hnn : t.length ≤ 100000) (hxn : x.length ≤ 100000) (hT : Tbs w tv t) (hM : Mx w) :
    Calls Tryz.prog 43 #[pcv c0 c1 c2 c3 c4 c5 dv, tv] w fun r w' => Below w.heap.size w w' ∧ MbR c0 c1 t x w.heap.size w' r := by
  obtain ⟨da, dn, dc, rfl, hdn, hdc, hdr⟩ := hd
  have HDN := hide' hdn
  clear hdn
  obtain ⟨W1, hW1⟩ : ∃ W, W = (w.alloc (.cells (pcCells c0 c1 c2 c3 c4 c5 (.slice (some da) dn dc)) 73)).alloc (.cells #[.string ⟨#[]⟩, .int .i64 0, .slice none 0 0] 37) := ⟨_, rfl⟩
  have hb1 : Below w.heap.size w W1 := by rw [hW1]; exact ((Below.refl _ _).alloc (Nat.le_refl _) _).alloc (by simp) _
  have hz1 : W1.heap.size = w.heap.size + 2 := by rw [hW1]; simp
  have p1 : W1.heap[w.heap.size]? = some (.cells (pcCells c0 c1 c2 c3 c4 c5 (.slice (some da) dn dc)) 73 (0, 0)) := by
    rw [hW1]; exact (Lib.alloc_old _ _ _ (by simp)).trans (heap_alloc_new w _)
  have p2 : W1.heap[w.heap.size + 1]? = some (.cells #[.string ⟨#[]⟩, .int .i64 0, .slice none 0 0] 37 (0, 0)) := by
    rw [hW1]
    have := heap_alloc_new (w.alloc (.cells (pcCells c0 c1 c2 c3 c4 c5 (.slice (some da) dn dc)) 73)) (.cells #[.string ⟨#[]⟩, .int .i64 0, .slice none 0 0] 37)
    simpa using this
  have hE1 := hE.below hb1 h3
  have hM1 := hM.below hb1 (by omega)
  have hT1 := hT.below hb1
  have qn := pname_any c0 c1 c2 c3 c4 c5 tv t W1 (some da) dn dc hl hE1 (by omega) hnn hT1 hM1
  have HW1 := hide' hW1
  have H1 := hide' (And.intro hb1 (And.intro p1 (And.intro p2 (And.intro hE1 hdr))))
  clear hW1 hb1 p1 p2 hE1 hM1 hT1 hE hM hT hdr
  go_enter Tryz.func43, Tryz.ntmps43
  go_wp2_with fail
  rw [← HW1.out]
  refine qn.mono ?_
  rintro r w2 ⟨hb2, hnm⟩
  clear qn
  unfold NmR at hnm
  cases hN : nameP c0 t with
  | none =>
    rw [hN] at hnm
    obtain ⟨s, rfl⟩ := hnm
    have HN := hide' hN
    clear hN
    have q2 := (hb2.block w.heap.size (by omega)).trans H1.out.2.1
    have q3 := (hb2.block (w.heap.size + 1) (by omega)).trans H1.out.2.2.1
    have k1 : w2.cell? ⟨w.heap.size, 1, none⟩ = some (.string (mk c1)) := by rw [Lib.cell_of_heap q2]; rfl
    have hE2 := H1.out.2.2.2.1.below hb2 (by omega)
    have hs2 := hb2.size
    have qv := value_any (mk c1) w2 (by rw [mk_size]; exact hl1) hE2 (by omega)
    rw [tl_mk c1] at qv
    go_wp2_with fail
    refine qv.mono ?_
    rintro r w3 ⟨hb3, hv⟩
    have hs3 := hb3.size
    have r2 := (hb3.block w.heap.size (by omega)).trans q2
    have r3 := (hb3.block (w.heap.size + 1) (by omega)).trans q3
    have HP2 := hide' r3
    have HB3 := hide' ((H1.out.1.trans (hb2.mono (by omega))).trans (hb3.mono (by omega)))
    have m0 : w3.cell? ⟨w.heap.size + 1, 0, none⟩ = some (.string ⟨#[]⟩) := by rw [Lib.cell_of_heap r3]; rfl
    have m1 : w3.cell? ⟨w.heap.size + 1, 1, none⟩ = some (.int .i64 0) := by rw [Lib.cell_of_heap r3]; rfl
    have m2 : w3.cell? ⟨w.heap.size + 1, 2, none⟩ = some (.slice none 0 0) := by rw [Lib.cell_of_heap r3]; rfl
    have z0 := Lib.frozen_of_heap r3 0
    have z1 := Lib.frozen_of_heap r3 1
    have z2 := Lib.frozen_of_heap r3 2
    have d6 : w3.cell? ⟨w.heap.size, 6, none⟩ = some (.slice (some da) dn dc) := by rw [Lib.cell_of_heap r2]; rfl
    clear qv q2 q3 r3 k1 hE2
    rcases hv with ⟨v, hv, rfl⟩ | ⟨hv, rfl⟩
    · have HV := hide' hv
      clear hv
      go_wp2_with fail
      have hX := three_set HP2.out (.string ⟨#[]⟩) (.int .i64 0) (.slice none 0 0)
      have hBX := below_three (P := w.heap.size + 1) HB3.out (by omega) (.string ⟨#[]⟩) (.int .i64 0) (.slice none 0 0)
      revert hX hBX
      generalize (((w3.setCell ⟨w.heap.size + 1, 0, none⟩ (.string ⟨#[]⟩)).setCell ⟨w.heap.size + 1, 1, none⟩ (.int .i64 0)).setCell ⟨w.heap.size + 1, 2, none⟩ (.slice none 0 0)) = X
      intro hX hBX
      have x0 : X.cell? ⟨w.heap.size + 1, 0, none⟩ = some (.string ⟨#[]⟩) := by rw [Lib.cell_of_heap hX]; rfl
      have x1 : X.cell? ⟨w.heap.size + 1, 1, none⟩ = some (.int .i64 0) := by rw [Lib.cell_of_heap hX]; rfl
      have x2 : X.cell? ⟨w.heap.size + 1, 2, none⟩ = some (.slice none 0 0) := by rw [Lib.cell_of_heap hX]; rfl
      refine bodyPost_ret (by simp [results, Tryz.results43, go_sem, x0, x1, x2]; rfl) rfl ?_
      exact ⟨hBX, mb_none1 HN.out rfl⟩
    · have HV := hide' hv
      clear hv
      go_wp2_with fail
      have hX := three_set HP2.out (.string ⟨#[]⟩) (.int .i64 0) (.slice none 0 0)
      have hBX := below_three (P := w.heap.size + 1) HB3.out (by omega) (.string ⟨#[]⟩) (.int .i64 0) (.slice none 0 0)
      revert hX hBX
      generalize (((w3.setCell ⟨w.heap.size + 1, 0, none⟩ (.string ⟨#[]⟩)).setCell ⟨w.heap.size + 1, 1, none⟩ (.int .i64 0)).setCell ⟨w.heap.size + 1, 2, none⟩ (.slice none 0 0)) = X
      intro hX hBX
      have x0 : X.cell? ⟨w.heap.size + 1, 0, none⟩ = some (.string ⟨#[]⟩) := by rw [Lib.cell_of_heap hX]; rfl
      have x1 : X.cell? ⟨w.heap.size + 1, 1, none⟩ = some (.int .i64 0) := by rw [Lib.cell_of_heap hX]; rfl
      have x2 : X.cell? ⟨w.heap.size + 1, 2, none⟩ = some (.slice none 0 0) := by rw [Lib.cell_of_heap hX]; rfl
      refine bodyPost_ret (by simp [results, Tryz.results43, go_sem, x0, x1, x2]; rfl) rfl ?_
      exact ⟨hBX, mb_none1 HN.out rfl⟩
  | some nm =>
    rw [hN] at hnm
    subst hnm
    have HN := hide' hN
    clear hN
    have q2 := (hb2.block w.heap.size (by omega)).trans H1.out.2.1
    have q3 := (hb2.block (w.heap.size + 1) (by omega)).trans H1.out.2.2.1
    have k1 : w2.cell? ⟨w.heap.size, 1, none⟩ = some (.string (mk c1)) := by rw [Lib.cell_of_heap q2]; rfl
    have hE2 := H1.out.2.2.2.1.below hb2 (by omega)
    have hs2 := hb2.size
    have qv := value_any (mk c1) w2 (by rw [mk_size]; exact hl1) hE2 (by omega)
    rw [tl_mk c1] at qv
    go_wp2_with fail
    refine qv.mono ?_
    rintro r w3 ⟨hb3, hv⟩
    have hs3 := hb3.size
    have r2 := (hb3.block w.heap.size (by omega)).trans q2
    have r3 := (hb3.block (w.heap.size + 1) (by omega)).trans q3
    have HP2 := hide' r3
    have HB3 := hide' ((H1.out.1.trans (hb2.mono (by omega))).trans (hb3.mono (by omega)))
    have m0 : w3.cell? ⟨w.heap.size + 1, 0, none⟩ = some (.string ⟨#[]⟩) := by rw [Lib.cell_of_heap r3]; rfl
    have m1 : w3.cell? ⟨w.heap.size + 1, 1, none⟩ = some (.int .i64 0) := by rw [Lib.cell_of_heap r3]; rfl
    have m2 : w3.cell? ⟨w.heap.size + 1, 2, none⟩ = some (.slice none 0 0) := by rw [Lib.cell_of_heap r3]; rfl
    have z0 := Lib.frozen_of_heap r3 0
    have z1 := Lib.frozen_of_heap r3 1
    have z2 := Lib.frozen_of_heap r3 2
    have d6 : w3.cell? ⟨w.heap.size, 6, none⟩ = some (.slice (some da) dn dc) := by rw [Lib.cell_of_heap r2]; rfl
    clear qv q2 q3 r3 k1 hE2
    rcases hv with ⟨v, hv, rfl⟩ | ⟨hv, rfl⟩
    · have HV := hide' hv
      clear hv
      have hdr3 := H1.out.2.2.2.2.below HB3.out
      have hnl := nameP_len HN.out
      have qo := own_any ⟨nm, (v : Int), .slice (some da) dn dc, x⟩ w3 hdr3 (by simp only; omega) (by simp only; omega)
      dsimp only at qo
      go_wp2_with fail
      refine qo.mono ?_
      rintro r w4 ⟨⟨dv', rfl, hdat, hown⟩, hb4⟩
      dsimp only
      obtain ⟨ea, en, ec, rfl⟩ := hdat.form
      have hs4 := hb4.size
      have r4 := (hb4.block (w.heap.size + 1) (by omega)).trans HP2.out
      have HP4 := hide' r4
      have HB4 := hide' (HB3.out.trans (hb4.mono (by omega)))
      have HD4 := hide' (And.intro hdat hown)
      clear m0 m1 m2 z0 z1 z2
      have m0 : w4.cell? ⟨w.heap.size + 1, 0, none⟩ = some (.string ⟨#[]⟩) := by rw [Lib.cell_of_heap r4]; rfl
      have m1 : w4.cell? ⟨w.heap.size + 1, 1, none⟩ = some (.int .i64 0) := by rw [Lib.cell_of_heap r4]; rfl
      have m2 : w4.cell? ⟨w.heap.size + 1, 2, none⟩ = some (.slice none 0 0) := by rw [Lib.cell_of_heap r4]; rfl
      have z0 := Lib.frozen_of_heap r4 0
      have z1 := Lib.frozen_of_heap r4 1
      have z2 := Lib.frozen_of_heap r4 2
      clear qo r4 hdat hown hdr3 r2 d6
      go_wp2_with fail
      have hX := three_set HP4.out (.string (mk nm)) (.int .i64 (v : Int)) (.slice ea en ec)
      have hBX := below_three (P := w.heap.size + 1) HB4.out (by omega) (.string (mk nm)) (.int .i64 (v : Int)) (.slice ea en ec)
      have hO : ∀ g, g ≠ w.heap.size + 1 → (((w4.setCell ⟨w.heap.size + 1, 0, none⟩ (.string (mk nm))).setCell ⟨w.heap.size + 1, 1, none⟩ (.int .i64 (v : Int))).setCell ⟨w.heap.size + 1, 2, none⟩ (.slice ea en ec)).heap[g]? = w4.heap[g]? := fun g hg => three_other hg _ _ _
      revert hX hBX hO
      generalize (((w4.setCell ⟨w.heap.size + 1, 0, none⟩ (.string (mk nm))).setCell ⟨w.heap.size + 1, 1, none⟩ (.int .i64 (v : Int))).setCell ⟨w.heap.size + 1, 2, none⟩ (.slice ea en ec)) = X
      intro hX hBX hO
      have x0 : X.cell? ⟨w.heap.size + 1, 0, none⟩ = some (.string (mk nm)) := by rw [Lib.cell_of_heap hX]; rfl
      have x1 : X.cell? ⟨w.heap.size + 1, 1, none⟩ = some (.int .i64 (v : Int)) := by rw [Lib.cell_of_heap hX]; rfl
      have x2 : X.cell? ⟨w.heap.size + 1, 2, none⟩ = some (.slice ea en ec) := by rw [Lib.cell_of_heap hX]; rfl
      refine bodyPost_ret (by simp [results, Tryz.results43, go_sem, x0, x1, x2]; rfl) rfl ?_
      refine ⟨hBX, mb_some HN.out HV.out ⟨_, rfl, HD4.out.1.kept fun g hg => hO g (by have := HD4.out.2 g hg; omega), fun g hg => by have := HD4.out.2 g hg; omega⟩⟩
    · have HV := hide' hv
      clear hv
      go_wp2_with fail
      have hX := three_set HP2.out (.string ⟨#[]⟩) (.int .i64 0) (.slice none 0 0)
      have hBX := below_three (P := w.heap.size + 1) HB3.out (by omega) (.string ⟨#[]⟩) (.int .i64 0) (.slice none 0 0)
      revert hX hBX
      generalize (((w3.setCell ⟨w.heap.size + 1, 0, none⟩ (.string ⟨#[]⟩)).setCell ⟨w.heap.size + 1, 1, none⟩ (.int .i64 0)).setCell ⟨w.heap.size + 1, 2, none⟩ (.slice none 0 0)) = X
      intro hX hBX
      have x0 : X.cell? ⟨w.heap.size + 1, 0, none⟩ = some (.string ⟨#[]⟩) := by rw [Lib.cell_of_heap hX]; rfl
      have x1 : X.cell? ⟨w.heap.size + 1, 1, none⟩ = some (.int .i64 0) := by rw [Lib.cell_of_heap hX]; rfl
      have x2 : X.cell? ⟨w.heap.size + 1, 2, none⟩ = some (.slice none 0 0) := by rw [Lib.cell_of_heap hX]; rfl
      refine bodyPost_ret (by simp [results, Tryz.results43, go_sem, x0, x1, x2]; rfl) rfl ?_
      exact ⟨hBX, mb_none2 HV.out rfl⟩
end Go.Proofs.YtcijjigafcpcpaaGreatDoor
