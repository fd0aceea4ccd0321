/- The contract of anvilref1.Sort: a list of its own of the texts of its list, rising, each once. -/
import Derived.Test.YtnhheljgjemfoaaDoorRefSortPlain
import Derived.Test.YtnhheljgjemfoaaDoorHas
import Derived.Deep.QuietTactic
import Derived.BigQuiet
namespace Go.Proofs.YtnhheljgjemfoaaDoor
open Go.RowKit Go.Shelf

theorem row_cells {W : World} {base : Nat} {a : Option Addr} {c : Nat} {O : List ByteArray} (h : W.ownsRow base 9 1 (.slice a O.length c) O.length (O.map Value.string)) (h0 : 0 < O.length) :
    ∃ g, a = some ⟨g, 0, none⟩ ∧ O.length ≤ c ∧ ∀ j, j < O.length → W.cell? ⟨g, j, none⟩ = some (.string (O.getD j ⟨#[]⟩)) := by
  rcases h.2 with ⟨_, h1⟩ | ⟨g, cap, cur, hv, hbase, hb, h1, h2, h3, h4⟩
  · omega
  · cases hv
    refine ⟨g, rfl, h1, fun j hj => ?_⟩
    have := h.cells (g := g) rfl j (.string (O.getD j ⟨#[]⟩)) (by rw [List.getElem?_map, List.getElem?_eq_getElem hj, List.getD_eq_getElem?_getD, List.getElem?_eq_getElem hj]; rfl)
    have e : (⟨g, 0, none⟩ : Addr).add j = ⟨g, 0 + j, none⟩ := by unfold Addr.add; split <;> simp_all
    rw [e, Nat.zero_add] at this
    exact this

/-- what the list so far is -/
def RsO (L O : List ByteArray) (k : Nat) : Prop := Up (O.map tl) ∧ ∀ y, y ∈ O.map tl ↔ y ∈ (L.take k).map tl

theorem own_form {W : World} {base m : Nat} {v : Value} {xs : List Value} (h : W.ownsRow base 9 1 v m xs) (hm : 0 < m) :
    ∃ (g c : Nat) (cur : List Value), v = .slice (some ⟨g, 0, none⟩) m c ∧ base ≤ g ∧ W.heap[g]? = some (.cells cur.toArray 9 (0, 0)) ∧ m ≤ c ∧ c ≤ maxLen ∧ cur.length = c ∧ cur.take m = xs := by
  rcases h.2 with ⟨_, h1⟩ | ⟨g, cap, cur, hv, hbase, hb, h1, h2, h3, h4⟩
  · omega
  · exact ⟨g, cap, cur.toList, hv, hbase, by simpa using hb, h1, h2, by simpa using h3, by simpa using h4⟩
theorem cells_at {W : World} {g t : Nat} {cur : List Value} (h : W.heap[g]? = some (.cells cur.toArray t (0, 0))) (j : Nat) : W.cell? ⟨g, j, none⟩ = cur[j]? := by
  simp [World.cell?, h]

/-- what copy(out[p+1:], out[p:]) asks -/
theorem copy_facts {V : World} {g c m p : Nat} {cur : List Value} {O : List ByteArray} (h : V.heap[g]? = some (.cells cur.toArray 9 (0, 0))) (hm : m = O.length + 1) (hp : p ≤ O.length) (hmc : m ≤ c) (hl : cur.length = c) (ht : cur.take m = O.map Value.string ++ [.string ⟨#[]⟩]) (X : List Value) (hX : X = (O.drop p).map Value.string) :
    ∃ A : Addr, (if c = p + 1 then some (⟨g, 0, none⟩ : Addr) else some ⟨g, p + 1, none⟩) = some A ∧ Hid (X.length = Nat.min (m - p) (m - (p + 1))) ∧ Hid (0 < X.length → some A = some ⟨g, p + 1, none⟩ ∧ ∃ ad, some (⟨g, p, none⟩ : Addr) = some ad ∧ ∀ j v, X[j]? = some v → V.cell? (ad.add j) = some v) ∧ Hid (p + 1 + X.length ≤ cur.length) ∧ Hid (∀ v ∈ X, v.oneCell' = true) := by
  subst hm
  have hXl : X.length = O.length - p := by rw [hX]; simp
  have hmin : X.length = Nat.min (O.length + 1 - p) (O.length + 1 - (p + 1)) := by
    rw [hXl]
    have : Nat.min (O.length + 1 - p) (O.length + 1 - (p + 1)) = O.length + 1 - (p + 1) := Nat.min_eq_right (by omega)
    omega
  have hone : ∀ v ∈ X, v.oneCell' = true := by
    intro v hv
    rw [hX] at hv
    obtain ⟨y, _, rfl⟩ := List.mem_map.1 hv
    rfl
  have hsrc : ∀ j v, X[j]? = some v → V.cell? ((⟨g, p, none⟩ : Addr).add j) = some v := by
    intro j v hv
    have hj : j < X.length := (List.getElem?_eq_some_iff.1 hv).1
    rw [Addr.add_lit, cells_at h]
    have : (cur.take (O.length + 1))[p + j]? = some v := by
      rw [ht, List.getElem?_append_left (by simp; omega), ← hv, hX, List.map_drop, List.getElem?_drop]
    rw [List.getElem?_take, if_pos (by omega)] at this
    exact this
  by_cases hc : c = p + 1
  · refine ⟨⟨g, 0, none⟩, by simp [hc], hmin, fun h0 => ?_, ?_, hone⟩
    · omega
    · show _ ≤ _; omega
  · refine ⟨⟨g, p + 1, none⟩, by simp [hc], hmin, fun h0 => ⟨rfl, _, rfl, hsrc⟩, ?_, hone⟩
    show _ ≤ _; omega

theorem ins_len (O : List ByteArray) (x : ByteArray) (p : Nat) (hp : p ≤ O.length) : (O.take p ++ x :: O.drop p).length = O.length + 1 := by simp; omega
theorem splice_len {cur : List Value} {c m p : Nat} {O : List ByteArray} {X : List Value} (hm : m = O.length + 1) (hp : p ≤ O.length) (hmc : m ≤ c) (hl : cur.length = c) (hX : X = (O.drop p).map Value.string) : (splice cur (p + 1) X).length = c := by
  rw [length_splice _ _ _ (by rw [hX]; simp; omega)]; exact hl
/-- the row behind out[p] = x -/
theorem new_row {V : World} {base g c m p : Nat} {cur : List Value} {O : List ByteArray} {x : ByteArray} {X : List Value} (h : V.heap[g]? = some (.cells (splice cur (p + 1) X).toArray 9 (0, 0))) (hbg : base ≤ g) (hm : m = O.length + 1) (hp : p ≤ O.length) (hmc : m ≤ c) (hcm : c ≤ maxLen) (hl : cur.length = c) (ht : cur.take m = O.map Value.string ++ [.string ⟨#[]⟩]) (hX : X = (O.drop p).map Value.string) :
    (V.setCell ⟨g, p, none⟩ (.string x)).ownsRow base 9 1 (.slice (some ⟨g, 0, none⟩) m c) (O.take p ++ x :: O.drop p).length ((O.take p ++ x :: O.drop p).map Value.string) := by
  have hsl := splice_len hm hp hmc hl hX
  rw [ins_len O x p hp, ← hm]
  refine ⟨by rw [List.length_map, ins_len O x p hp]; omega, .inr ⟨g, c, _, rfl, hbg, Go.heap_setCell_same _ _ _ _ _ _ h, hmc, hcm, by simpa using hsl, ?_⟩⟩
  subst hm
  subst hX
  have := ins_cells cur O x p hp ht
  simpa using this

theorem take_mem (L : List ByteArray) (k : Nat) (h : k < L.length) (y : Bs) : y ∈ (L.take (k + 1)).map tl ↔ y = tl (L.getD k ⟨#[]⟩) ∨ y ∈ (L.take k).map tl := by
  rw [List.take_succ_eq_append_getElem h, List.map_append, List.mem_append, List.getD_eq_getElem?_getD, List.getElem?_eq_getElem h]
  simp [or_comm]
theorem rso_same {L O : List ByteArray} {k p : Nat} (h : RsO L O k) (hk : k < L.length) (hp : p < O.length) (he : O.getD p ⟨#[]⟩ = L.getD k ⟨#[]⟩) : RsO L O (k + 1) := by
  refine ⟨h.1, fun y => ?_⟩
  rw [take_mem L k hk, ← h.2 y]
  refine ⟨.inr, fun e => e.elim (fun e => ?_) id⟩
  rw [e, ← he, List.getD_eq_getElem?_getD, List.getElem?_eq_getElem hp]
  exact List.mem_map_of_mem (List.getElem_mem hp)
theorem rso_new {L O : List ByteArray} {k p : Nat} (h : RsO L O k) (hk : k < L.length) (hM : Mid O (tl (L.getD k ⟨#[]⟩)) p p) (hne : p < O.length → O.getD p ⟨#[]⟩ ≠ L.getD k ⟨#[]⟩) : RsO L (O.take p ++ L.getD k ⟨#[]⟩ :: O.drop p) (k + 1) :=
  ⟨mid_up h.1 hM hne, fun y => by rw [take_mem L k hk, mem_ins, h.2 y]⟩
theorem rso_end {L O : List ByteArray} {k : Nat} (hke : L.take k = L) (h : RsO L O k) : O.map tl = so (L.map tl) := by
  obtain ⟨h1, h2⟩ := h
  rw [hke] at h2
  exact up_unique _ _ h1 (so_spec _).1 fun y => (h2 y).trans ((so_spec _).2 y).symm

set_option maxRecDepth 100000 in
set_option maxHeartbeats 2000000 in
theorem rsort_some (L : List ByteArray) (b off cap : Nat) (w : World) (hl : L.length ≤ 100000) (hb : b < w.heap.size) (hc : ∀ j, j < L.length → w.cell? ⟨b, off + j, none⟩ = some (.string (L.getD j ⟨#[]⟩))) :
    Calls Tryd.prog 10 #[.slice (some ⟨b, off, none⟩) L.length cap] w fun e w' => ∃ (v : Value) (K : List ByteArray), e = .returned v ∧ K.map tl = so (L.map tl) ∧ w'.ownsRow w.heap.size 9 1 v K.length (K.map Value.string) ∧ Below w.heap.size w w' := by
  obtain ⟨i0, hi, hz0, hz1, hz2⟩ := info_parts info9
  have HC := hide' hc
  clear hc
  go_enter Tryd.func10, Tryd.ntmps10
  go_wp2
  go_loopw [3, 4] (fun o i wr => ∃ (k : Nat) (O : List ByteArray), k ≤ L.length ∧ O.length ≤ k ∧ i = .int .i64 k ∧ wr.ownsRow w.heap.size 9 1 o O.length (O.map Value.string) ∧ Below w.heap.size w wr ∧ Hid (RsO L O k)) (fun _ i _ => L.length - (intOf i).toNat)
  case atStart => exact ⟨0, [], Nat.zero_le _, Nat.le_refl _, rfl, World.ownsRow_nil _ _ _ _, Below.refl _ _, ⟨List.Pairwise.nil, fun y => Iff.rfl⟩⟩
  case round =>
    obtain ⟨k, O, hk, hO, rfl, hrow, hB, HI⟩ := hrel
    obtain ⟨a, c, rfl⟩ := row_form hrow
    obtain ⟨wo, rfl⟩ : ∃ wo, wo = wr := ⟨_, rfl⟩
    by_cases hlt : k < L.length
    · have cx := HC.out k hlt
      have c1 := (hB.cell (p := ⟨b, off + k, none⟩) hb).trans cx
      go_wp2
      go_loopw [5, 6, 7] (fun p q _ wr => ∃ p' q' : Nat, p = .int .i64 p' ∧ q = .int .i64 q' ∧ p' ≤ q' ∧ q' ≤ O.length ∧ Hid (Mid O (tl (L.getD k ⟨#[]⟩)) p' q') ∧ ∃ n, wr = wo.drewN n) (fun p q _ _ => (intOf q).toNat - (intOf p).toNat)
      case atStart => exact ⟨0, O.length, rfl, rfl, Nat.zero_le _, Nat.le_refl _, ⟨fun i hi h0 => absurd h0 (Nat.not_lt_zero _), fun i hi h0 => absurd hi (Nat.not_lt.2 h0)⟩, 0, rfl⟩
      case round =>
        obtain ⟨p, q, rfl, rfl, hpq, hq, HM, n, rfl⟩ := hrel
        by_cases hlt2 : p < q
        · obtain ⟨g, rfl, hcc, hcell⟩ := row_cells hrow (by omega)
          obtain ⟨m, hm⟩ : ∃ m, m = (p + q) / 2 := ⟨_, rfl⟩
          have c2 := hcell m (by omega)
          have hmi : ((p : Int) + q) / 2 = m := by omega
          have hm1 : p ≤ m := by omega
          have hm2 : m < q := by omega
          have hm3 : m < O.length := by omega
          clear hm
          have HH := hide' hcell
          clear hcell
          by_cases hd : tl (O.getD m ⟨#[]⟩) < tl (L.getD k ⟨#[]⟩)
          · have HM' := hide' (mid_lo HI.out.1 HM.out (by omega) hd)
            have hd' : Op.bytesLess (O.getD m ⟨#[]⟩).toList (L.getD k ⟨#[]⟩).toList = true := by rw [Go.Proofs.bytesLess_eq, Lib.toList_data, Lib.toList_data]; exact decide_eq_true hd
            generalize L.getD k ⟨#[]⟩ = x at cx c1 HM' hd'
            generalize O.getD m ⟨#[]⟩ = y at c2 hd'
            clear hd
            go_wp2
            rw [hmi]
            clear hmi HC HI HM HH cx hi hz0 hz1 hz2 hrow hB
            go_region
            go_wp2
            exact ⟨⟨m + 1, q, by go_num, rfl, by omega, hq, HM', _, rfl⟩, by simp [intOf]; omega⟩
          · have HM' := hide' (mid_hi HI.out.1 HM.out hd)
            have hd' : Op.bytesLess (O.getD m ⟨#[]⟩).toList (L.getD k ⟨#[]⟩).toList = false := by rw [Go.Proofs.bytesLess_eq, Lib.toList_data, Lib.toList_data]; exact decide_eq_false hd
            generalize L.getD k ⟨#[]⟩ = x at cx c1 HM' hd'
            generalize O.getD m ⟨#[]⟩ = y at c2 hd'
            clear hd
            go_wp2
            rw [hmi]
            clear hmi HC HI HM HH cx hi hz0 hz1 hz2 hrow hB
            go_region
            go_wp2
            exact ⟨⟨p, m, rfl, by go_num, by omega, by omega, HM', _, rfl⟩, by simp [intOf]; omega⟩
        · obtain rfl : p = q := by omega
          have hrow1 : (wo.drewN n).ownsRow w.heap.size 9 1 (.slice a O.length c) O.length (O.map Value.string) := hrow
          have hB1 : Below w.heap.size w (wo.drewN n) := below_drewN hB n
          have c3 : (wo.drewN n).cell? ⟨b, off + k, none⟩ = some (.string (L.getD k ⟨#[]⟩)) := c1
          clear hrow hB c1 hlt2 hpq
          generalize wo.drewN n = W at hrow1 hB1 c3 ⊢
          by_cases hpl : p < O.length
          · obtain ⟨g, rfl, hcc, hcell⟩ := row_cells hrow1 (by omega)
            have c2 := hcell p hpl
            clear hcell
            by_cases heq : O.getD p ⟨#[]⟩ = L.getD k ⟨#[]⟩
            · have HI' : Hid (RsO L O (k + 1)) := rso_same HI.out hlt hpl heq
              have he : ((O.getD p ⟨#[]⟩).toList == (L.getD k ⟨#[]⟩).toList) = true := by rw [heq]; simp
              have HR := hide' hrow1
              have HB := hide' hB1
              generalize L.getD k ⟨#[]⟩ = x at c3 he
              generalize O.getD p ⟨#[]⟩ = y at c2 he
              clear HC HI HM hi hz0 hz1 hz2 heq cx hrow1 hB1
              go_wp2
              go_quiet (fail)
              go_wp2
              exact ⟨⟨k + 1, O, by omega, by omega, by go_num, HR.out, below_drewN HB.out _, HI'⟩, by simp [intOf]; omega⟩
            · have HI' := hide' (rso_new HI.out hlt HM.out (fun _ => heq))
              have HR := hide' hrow1
              have HB := hide' hB1
              have he : ((O.getD p ⟨#[]⟩).toList == (L.getD k ⟨#[]⟩).toList) = false := by
                rw [Lib.toList_data, Lib.toList_data]
                refine beq_eq_false_iff_ne.2 fun e => heq ?_
                rw [← ba_of (O.getD p ⟨#[]⟩), ← ba_of (L.getD k ⟨#[]⟩), e]
              clear heq
              generalize L.getD k ⟨#[]⟩ = x at cx c3 HI' he
              generalize O.getD p ⟨#[]⟩ = y at c2 he
              clear HC HI HM hrow1 hB1
              go_wp2
              go_quiet (fail)
              have hrow2 : (W.drewN nq).ownsRow w.heap.size 9 1 (.slice (some ⟨g, 0, none⟩) O.length c) O.length (O.map Value.string) := HR.out
              have hB2 : Below w.heap.size w (W.drewN nq) := below_drewN HB.out _
              clear HR HB he c2 c3
              generalize W.drewN nq = W2 at hrow2 hB2 ⊢
              have hsz := hB2.size
              have hpp : p ≤ O.length := hq
              have h2b : ∀ o, w.heap.size ≤ (W2.alloc o).heap.size := fun o => by simp; omega
              have hl1 : O.length + 1 ≤ maxLen := by unfold maxLen; omega
              clear hpl hq hcc
              go_wp2_with (at_builtin; refine wpList_append_own _ rfl _ _ 22 rfl w.heap.size 9 i0 (.string ⟨#[]⟩) 1 16 Tryd.underlying22 hi hz0 hz1 hz2 rfl (by decide) _ _ _ rfl (hrow2.alloc _) ⟨W2.heap.size, 0, none⟩ 1 1 [.string ⟨#[]⟩] rfl rfl (cell_one_new _ _ _) (by simp [Value.oneCell']) hl1 (by omega) (h2b _) ?_; intro v' w3 hown hgrow hif; clear hif; have hB3 := app_below hB2 hsz hrow2 hgrow; obtain ⟨g3, c3, cur, rfl, hbg, hheap, hmc, hcm, hcl, htk⟩ := own_form hown (Nat.succ_pos _); clear hown hgrow hrow2 hB2 h2b hl1 hsz; obtain ⟨m, hm⟩ : ∃ m, m = O.length + 1 := ⟨_, rfl⟩; rw [← hm] at hmc htk ⊢; have HG := hide' hheap; have HT := hide' htk; have HB3 := hide' hB3; have HM := hide' hm; have hpm : p < m := (by omega); have HL := hide' hcl; have HX := hide' hbg; unfold maxLen at hcm; clear hheap htk hB3 hm hcl hbg)
              obtain ⟨X, hX⟩ : ∃ X, X = (O.drop p).map Value.string := ⟨_, rfl⟩
              obtain ⟨A, hA, f1, f2, f3, f4⟩ := copy_facts (V := w3.drew) HG.out HM.out hpp hmc HL.out HT.out X hX
              have FX := hide' hX
              clear hX
              have hsz1 : (Tryd.prog.info? 9).map (·.size) = some 1 := by rw [hi]; simp [hz1]
              have HS := hide' hsz1
              clear hsz1
              have hwr : IntKind.i64.wrap ((p : Int) + 1) = (p : Int) + 1 := by rw [IntKind.wrap_i64]; omega
              have hp0 : (0 : Int) ≤ (p : Int) + 1 := by omega
              have hp1 : (p : Int) + 1 ≤ (m : Int) := by omega
              have hp2 : ((p : Int) + 1).toNat = p + 1 := by omega
              have hp3 : ¬ c3 = p := by omega
              have hp4 : p ≤ m := by omega
              go_region_law (refine step_copy_splice rfl (.tmp 56) (.tmp 59) 22 22 rfl 9 Tryd.underlying22 HS.out (some A) (some ⟨g3, p, none⟩) (m - (p + 1)) (c3 - (p + 1)) (m - p) (c3 - p) (by simp [Act.eval, Act.put]) (by simp [Act.eval, Act.put]) g3 (p + 1) cur 9 HG.out X f1.out f2.out f3.out f4.out w.heap.size w (below_drewN HB3.out 1) HX.out ?_; intro w4 hg4 hb4)
              have c5 := (hb4.cell (p := ⟨b, off + k, none⟩) hb).trans cx
              have hsl := splice_len HM.out hpp hmc HL.out FX.out
              obtain ⟨u, hu⟩ : ∃ u, w4.cell? ⟨g3, p, none⟩ = some u := ⟨_, (cells_at hg4.out p).trans (List.getElem?_eq_getElem (by omega))⟩
              have hfz : w4.frozen? ⟨g3, p, none⟩ = false := Lib.frozen_of_heap hg4.out p
              have HB4 := hide' hb4
              clear hb4 hsl hA hwr hp0 hp1 hp2 hp3 hp4 f1 f2 f3 f4 HS HB3 HG cx
              go_wp2
              have hlen := ins_len O x p hpp
              exact ⟨⟨k + 1, O.take p ++ x :: O.drop p, by omega, by omega, by go_num, new_row hg4.out HX.out HM.out hpp hmc (by unfold maxLen; omega) HL.out HT.out FX.out, HB4.out.setCell (p := ⟨g3, p, none⟩) HX.out _, HI'⟩, by simp [intOf]; omega⟩
          · have HI' := hide' (rso_new HI.out hlt HM.out (fun h => absurd h hpl))
            have HR := hide' hrow1
            have HB := hide' hB1
            have hpo : decide ((p : Int) < (O.length : Int)) = false := decide_eq_false (by omega)
            generalize L.getD k ⟨#[]⟩ = x at cx c3 HI'
            clear HC HI HM hrow1 hB1
            go_wp2
            go_quiet (fail)
            have hrow2 : (W.drewN nq).ownsRow w.heap.size 9 1 (.slice a O.length c) O.length (O.map Value.string) := HR.out
            have hB2 : Below w.heap.size w (W.drewN nq) := below_drewN HB.out _
            clear HR HB hpo c3
            generalize W.drewN nq = W2 at hrow2 hB2 ⊢
            have hsz := hB2.size
            have hpp : p ≤ O.length := hq
            have h2b : ∀ o, w.heap.size ≤ (W2.alloc o).heap.size := fun o => by simp; omega
            have hl1 : O.length + 1 ≤ maxLen := by unfold maxLen; omega
            clear hpl hq
            go_wp2_with (at_builtin; refine wpList_append_own _ rfl _ _ 22 rfl w.heap.size 9 i0 (.string ⟨#[]⟩) 1 16 Tryd.underlying22 hi hz0 hz1 hz2 rfl (by decide) _ _ _ rfl (hrow2.alloc _) ⟨W2.heap.size, 0, none⟩ 1 1 [.string ⟨#[]⟩] rfl rfl (cell_one_new _ _ _) (by simp [Value.oneCell']) hl1 (by omega) (h2b _) ?_; intro v' w3 hown hgrow hif; clear hif; have hB3 := app_below hB2 hsz hrow2 hgrow; obtain ⟨g3, c3, cur, rfl, hbg, hheap, hmc, hcm, hcl, htk⟩ := own_form hown (Nat.succ_pos _); clear hown hgrow hrow2 hB2 h2b hl1 hsz; obtain ⟨m, hm⟩ : ∃ m, m = O.length + 1 := ⟨_, rfl⟩; rw [← hm] at hmc htk ⊢; have HG := hide' hheap; have HT := hide' htk; have HB3 := hide' hB3; have HM := hide' hm; have hpm : p < m := (by omega); have HL := hide' hcl; have HX := hide' hbg; unfold maxLen at hcm; clear hheap htk hB3 hm hcl hbg)
            obtain ⟨X, hX⟩ : ∃ X, X = (O.drop p).map Value.string := ⟨_, rfl⟩
            obtain ⟨A, hA, f1, f2, f3, f4⟩ := copy_facts (V := w3.drew) HG.out HM.out hpp hmc HL.out HT.out X hX
            have FX := hide' hX
            clear hX
            have hsz1 : (Tryd.prog.info? 9).map (·.size) = some 1 := by rw [hi]; simp [hz1]
            have HS := hide' hsz1
            clear hsz1
            have hwr : IntKind.i64.wrap ((p : Int) + 1) = (p : Int) + 1 := by rw [IntKind.wrap_i64]; omega
            have hp0 : (0 : Int) ≤ (p : Int) + 1 := by omega
            have hp1 : (p : Int) + 1 ≤ (m : Int) := by omega
            have hp2 : ((p : Int) + 1).toNat = p + 1 := by omega
            have hp3 : ¬ c3 = p := by omega
            have hp4 : p ≤ m := by omega
            go_region_law (refine step_copy_splice rfl (.tmp 56) (.tmp 59) 22 22 rfl 9 Tryd.underlying22 HS.out (some A) (some ⟨g3, p, none⟩) (m - (p + 1)) (c3 - (p + 1)) (m - p) (c3 - p) (by simp [Act.eval, Act.put]) (by simp [Act.eval, Act.put]) g3 (p + 1) cur 9 HG.out X f1.out f2.out f3.out f4.out w.heap.size w (below_drewN HB3.out 1) HX.out ?_; intro w4 hg4 hb4)
            have c5 := (hb4.cell (p := ⟨b, off + k, none⟩) hb).trans cx
            have hsl := splice_len HM.out hpp hmc HL.out FX.out
            obtain ⟨u, hu⟩ : ∃ u, w4.cell? ⟨g3, p, none⟩ = some u := ⟨_, (cells_at hg4.out p).trans (List.getElem?_eq_getElem (by omega))⟩
            have hfz : w4.frozen? ⟨g3, p, none⟩ = false := Lib.frozen_of_heap hg4.out p
            have HB4 := hide' hb4
            clear hb4 hsl hA hwr hp0 hp1 hp2 hp3 hp4 f1 f2 f3 f4 HS HB3 HG cx
            go_wp2
            have hlen := ins_len O x p hpp
            exact ⟨⟨k + 1, O.take p ++ x :: O.drop p, by omega, by omega, by go_num, new_row hg4.out HX.out HM.out hpp hmc (by unfold maxLen; omega) HL.out HT.out FX.out, HB4.out.setCell (p := ⟨g3, p, none⟩) HX.out _, HI'⟩, by simp [intOf]; omega⟩
    · have hke : L.take k = L := List.take_of_length_le (by omega)
      have HK := hide' (rso_end hke HI.out)
      have HR := hide' hrow
      have HB := hide' hB
      clear HC HI hi hz0 hz1 hz2 hke hrow hB
      go_wp2
      go_ret
      exact ⟨_, O, rfl, HK.out, HR.out, HB.out⟩

theorem rsort_nil (a : Option Addr) (cap : Nat) (w : World) :
    Calls Tryd.prog 10 #[.slice a 0 cap] w fun e w' => e = .returned (.slice none 0 0) ∧ w' = w := by
  go_enter Tryd.func10, Tryd.ntmps10
  go_wp2
  go_loop [3, 4] (fun o i => o = .slice none 0 0 ∧ i = .int .i64 0) (fun _ _ => 0)
  case atStart => exact ⟨rfl, rfl⟩
  case round =>
    obtain ⟨rfl, rfl⟩ := hrel
    go_wp2
    go_ret
    exact ⟨rfl, rfl⟩

/-- anvilref1.Sort at a list of texts -/
theorem rsort_any (L : List ByteArray) (v : Value) (w : World) (hl : L.length ≤ 100000) (h : Strz w v L) :
    Calls Tryd.prog 10 #[v] w fun e w' => ∃ (v : Value) (K : List ByteArray), e = .returned v ∧ K.map tl = so (L.map tl) ∧ w'.ownsRow w.heap.size 9 1 v K.length (K.map Value.string) ∧ Below w.heap.size w w' := by
  rcases h.form with ⟨rfl, a, cap, rfl⟩ | ⟨_, b, off, cap, rfl, h3, h4⟩
  · refine (rsort_nil a cap w).mono ?_
    rintro e w' ⟨rfl, rfl⟩
    exact ⟨_, [], rfl, (so_self [] List.Pairwise.nil).symm, World.ownsRow_nil _ _ _ _, Below.refl _ _⟩
  · exact rsort_some L b off cap w hl h3 h4
end Go.Proofs.YtnhheljgjemfoaaDoor
