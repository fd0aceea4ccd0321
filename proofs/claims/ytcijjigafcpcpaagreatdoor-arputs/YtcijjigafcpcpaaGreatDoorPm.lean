/- The contract of anvilref5.PutMember. -/
import Derived.Test.YtcijjigafcpcpaaGreatDoorPut
import Derived.Deep.Cut
namespace Go.Proofs.YtcijjigafcpcpaaGreatDoor
open Go.RowKit Go.Maps

/-- an answer: members in memory -/
def MmR (es : List (Bs × Int × Bs)) (w : World) (r : Ending) : Prop := ∃ v ms, r = .returned v ∧ Mems w v ms ∧ ms.map toE = es
theorem flat_split {ns : List Mv} {j : Nat} {u : Value} (h : (flat ns)[j]? = some u) : ∃ n r, ns[j / 3]? = some n ∧ r < 3 ∧ j = j / 3 * 3 + r ∧ (cellsM n)[r]? = some u := by
  have hj : j < ns.length * 3 := by
    have := (List.getElem?_eq_some_iff.1 h).1
    rwa [flat_len] at this
  obtain ⟨n, hn⟩ : ∃ n, ns[j / 3]? = some n := ⟨_, List.getElem?_eq_getElem (by omega)⟩
  refine ⟨n, j % 3, hn, by omega, by omega, ?_⟩
  rw [← flat_at ns (j / 3) (j % 3) n hn (by omega), show j / 3 * 3 + j % 3 = j by omega]
  exact h
theorem MRow.cells {w : World} {g o : Nat} {ns : List Mv} (h : MRow w g o ns) : ∀ j u, (flat ns)[j]? = some u → w.cell? ((⟨g, o, none⟩ : Addr).add j) = some u := by
  intro j u hj
  obtain ⟨n, r, hn, hr, e, hu⟩ := flat_split hj
  rw [Addr.add_lit, e, ← Nat.add_assoc]
  rcases r with _ | _ | _ | r
  · cases hu; exact h.c0 _ n hn
  · cases hu; exact h.c1 _ n hn
  · cases hu; exact h.c2 _ n hn
  · omega
theorem flat_one {ns : List Mv} {w : World} (h : ∀ n ∈ ns, Rds w n.dv n.data) : ∀ u ∈ flat ns, u.oneCell' = true := by
  intro u hu
  unfold flat at hu
  obtain ⟨n, hn, hu⟩ := List.mem_flatMap.1 hu
  obtain ⟨a, c, e⟩ := (h n hn).len
  obtain ⟨p, t, dv, x⟩ := n
  dsimp only at e
  subst e
  exact news_one _ _ _ _ _ _ u hu
theorem wpList_append_mems (w : World) {ops : Array Oper} {rest : List Oper} {o : Oper} {a : Act} {Q : Exit → Act → World → Prop} (hgd : o.guard = none) (s y : Operand) (x : Value) (ns : List Mv)
    (ho : o.op = .call { callee := .builtin .append, args := #[s, y], argTypes := #[22, 22] }) (hs : a.eval s = .slice none 0 0) (hy : a.eval y = x) (hm : Mems w x ns) (hl : ns.length ≤ 100000)
    (h : ∀ la lc w', w'.ownsRow w.heap.size 37 3 (.slice la ns.length lc) ns.length (flat ns) → Below w.heap.size w w' → wpList Tryz.prog ops Q rest (a.put o.dst (.slice la ns.length lc)) w') : wpList Tryz.prog ops Q (o :: rest) a w := by
  obtain ⟨i, hi, hz0, hz1, hz2⟩ := info_parts info37
  by_cases hn : ns = []
  · subst hn
    refine wpList_plain hgd fun K hK => ?_
    obtain ⟨sa, c, rfl⟩ := hm.len
    have hr : (Builtin.append_ #[22, 22] o.type #[.slice none 0 0, .slice sa 0 c]).run Tryz.prog w = .ok (.slice none 0 0) w := by
      cases sa with
      | none => simp [Builtin.append_, run_underlying Tryz.underlying22, sizeOf, typeInfo, hi, Builtin.lenOf, Builtin.firstCells]
      | some a => simp [Builtin.append_, run_underlying Tryz.underlying22, sizeOf, typeInfo, hi, Builtin.lenOf, Builtin.firstCells, loadCells, loadCellsFrom]
    have hy' : a.eval y = .slice sa 0 c := hy
    unfold Oper.wp execOp
    simp only [ho, resolve, invoke, builtin, Sem.run_bind, Sem.run_pure, Result.andThen_ok, List.map_toArray, List.map_cons, List.map_nil, hs, hy', hr]
    exact hK _ _ (h none 0 w (World.ownsRow_nil _ _ _ _) (Below.refl _ _))
  · have hpos : 0 < ns.length := List.length_pos_iff.2 hn
    rcases hm with ⟨_, e⟩ | ⟨g, of, cap, rfl, h0, h1, h2⟩
    · exact absurd e hn
    · refine wpList_append_lies w hgd s y 22 ho w.heap.size 37 i _ 3 48 Tryz.underlying22 hi hz0 hz1 hz2 rfl (by decide) (.slice none 0 0) 0 [] hs (World.ownsRow_nil _ _ _ _) ⟨g, of, none⟩ ns.length cap (flat ns) hy (flat_len ns) h1.cells (flat_one h2) hpos (by unfold maxLen; omega) (by omega) (Nat.le_refl _) _ rfl ?_
      intro g9 c9 w9 hown hgr _ _
      rw [Nat.zero_add] at hown ⊢
      exact h _ _ w9 hown ⟨hgr.os, hgr.tape, hgr.output, hgr.size, fun b hb => hgr.block b hb (by simp [Value.ownBlock])⟩
/-- a row of one's own, whose members' bytes lie anywhere -/
theorem mems_own {w : World} {B : Nat} {l : Value} {ms : List Mv} (h : w.ownsRow B 37 3 l ms.length (flat ms)) (hr : ∀ m ∈ ms, Rds w m.dv m.data) : Mems w l ms := by
  rcases h.2 with ⟨e, e2⟩ | ⟨g, cap, cur, e, hbg, hg, r1, r2, r3, r4⟩
  · exact .inl ⟨⟨_, _, e⟩, List.length_eq_zero_iff.1 e2⟩
  · refine .inr ⟨g, 0, cap, e, r1, ⟨lt_of_block hg, fun i n hi => ?_, fun i n hi => ?_, fun i n hi => ?_⟩, hr⟩
    · rw [Nat.zero_add]; exact cell_row hg r4 (r := 0) hi (by omega) rfl
    · rw [Nat.zero_add]; exact cell_row hg r4 (r := 1) hi (by omega) rfl
    · rw [Nat.zero_add]; exact cell_row hg r4 (r := 2) hi (by omega) rfl
theorem own_kept' {w w' : World} {base n : Nat} {v : Value} {xs : List Value} (h : w.ownsRow base 37 3 v n xs) (hk : ∀ g, base ≤ g → w'.heap[g]? = w.heap[g]?) : w'.ownsRow base 37 3 v n xs := by
  refine ⟨h.1, ?_⟩
  rcases h.2 with h1 | ⟨g, cap, cur, rfl, h2, hg, r⟩
  · exact .inl h1
  · exact .inr ⟨g, cap, cur, rfl, h2, (hk g h2).trans hg, r⟩
theorem Mems.rds {w : World} {v : Value} {ms : List Mv} (h : Mems w v ms) : ∀ m ∈ ms, Rds w m.dv m.data := by
  rcases h with ⟨_, rfl⟩ | ⟨g, o, cap, _, _, _, h2⟩
  · intro m hm; cases hm
  · exact h2
theorem place_some {ns : List Mv} {b : Bs} (h : ¬ placeR ns b < 0) : ∃ k : Nat, placeR ns b = k ∧ k < ns.length := by
  unfold placeR at *
  cases hf : findN ns b with
  | none => rw [hf] at h; simp at h
  | some k =>
    obtain ⟨m, hm, _⟩ := findN_lt hf
    exact ⟨k, rfl, (List.getElem?_eq_some_iff.1 hm).1⟩
set_option maxRecDepth 100000 in
set_option maxHeartbeats 8000000 in
theorem pm_any' (sa : Option Addr) (cap : Nat) (ns : List Mv) (p : Bs) (t : Int) (da : Option Addr) (dc : Nat) (x : Bs) (w : World) (hM : Mems w (.slice sa ns.length cap) ns) (hx : Rds w (.slice da x.length dc) x) (hl : ns.length ≤ 100000) (_hpl : p.length ≤ 300000) (hxl : x.length ≤ 300000) :
    Calls Tryz.prog 21 #[.slice sa ns.length cap, .agg #[.string (mk p), .int .i64 t, .slice da x.length dc]] w fun r w' => MmR ((putM ns ⟨p, t, .slice da x.length dc, x⟩).map toE) w' r ∧ Below w.heap.size w w' := by
  have hb0 : Below w.heap.size w (w.alloc (.cells #[.string (mk p), .int .i64 t, .slice da x.length dc] 37)) := (Below.refl _ _).alloc (Nat.le_refl _) _
  have z0 := alloc_new w (.cells #[.string (mk p), .int .i64 t, .slice da x.length dc] 37)
  have hM0 := hM.below hb0
  go_enter Tryz.func21, Tryz.ntmps21
  go_wp2_with (at_builtin; refine wpList_append_mems _ rfl _ _ _ ns rfl rfl rfl hM0 hl ?_)
  intro la lc w1 hown1 hb1
  obtain ⟨w0, hw0⟩ : ∃ w0, w0 = w.alloc (.cells #[.string (mk p), .int .i64 t, .slice da x.length dc] 37) := ⟨_, rfl⟩
  rw [← hw0] at hb0 z0 hb1 hM0
  have hs0 : w0.heap.size = w.heap.size + 1 := by rw [hw0]; simp
  clear hw0
  have hB1 := hb0.trans (hb1.mono (Nat.le_succ _))
  have hx1 := hx.below hB1
  have z1 := (hb1.block _ (by omega)).trans z0
  have hs1 := hb1.size
  have m2 : w1.cell? ⟨w.heap.size, 2, none⟩ = some (.slice da x.length dc) := by rw [Lib.cell_of_heap z1]; rfl
  have HH := hide' (And.intro hM (And.intro hx (And.intro hB1 (And.intro hown1 z1))))
  clear hM hx hB1 hown1 hb1 hb0 z0 z1 hM0
  go_wp2_with (at_builtin; refine wpList_append_dat _ rfl _ _ rfl rfl rfl (Dat.nil _) hx1 (by simp; omega) ?_)
  intro v3 w3 hd3 _ hg3 ho3
  have hd3 : Dat w3 v3 x := hd3
  obtain ⟨hM, hx, hB1, hown1, z1⟩ := HH.out
  clear HH
  have hb3 : Below w1.heap.size w1 w3 := ⟨hg3.os, hg3.tape, hg3.output, hg3.size, fun b hb => hg3.block b hb (by simp [Value.ownBlock])⟩
  have hlo3 : ∀ g, v3.ownBlock = some g → w1.heap.size ≤ g := fun g hg => by
    rcases ho3 with e | e
    · rw [hg] at e; cases e
    · rw [hg] at e; have := Option.some.inj e; omega
  have hB3 := hB1.trans (hb3.mono hB1.size)
  have hs3 := hb3.size
  have z3 := (hb3.block _ (by omega)).trans z1
  have hown3 := own_kept hown1 hb3
  obtain ⟨a3, n3, c3, hv3⟩ := hd3.form
  subst hv3
  have s2 : w3.cell? ⟨w.heap.size, 2, none⟩ = some (.slice da x.length dc) := by rw [Lib.cell_of_heap z3]; rfl
  have f2 := Lib.frozen_of_heap z3 2
  have z4 := set_row z3 2 (.slice a3 n3 c3)
  have hB4 : Below w.heap.size w (w3.setCell ⟨w.heap.size, 2, none⟩ (.slice a3 n3 c3)) := hB3.setCell (Nat.le_refl _) _
  have hk4 : ∀ b, b ≠ w.heap.size → (w3.setCell ⟨w.heap.size, 2, none⟩ (.slice a3 n3 c3)).heap[b]? = w3.heap[b]? := fun b hb => Below.heap_setCell _ _ _ _ hb
  have m0 : (w3.setCell ⟨w.heap.size, 2, none⟩ (.slice a3 n3 c3)).cell? ⟨w.heap.size, 0, none⟩ = some (.string (mk p)) := by rw [Lib.cell_of_heap z4]; rfl
  have q4 := Member_any _ ns p _ (hM.below hB4) (by omega)
  have HH := hide' (And.intro hM (And.intro hx (And.intro hB3 (And.intro hown3 (And.intro z4 (And.intro hd3 (And.intro hlo3 (And.intro hB4 hk4))))))))
  clear hM hx hB3 hown3 z4 z3 hd3 hlo3 hB4 hk4 hb3 hg3 ho3 hB1 hown1 z1 hx1 m2
  go_wp2_with fail
  refine q4.mono ?_
  rintro r w4' ⟨rfl, rfl⟩
  dsimp only
  obtain ⟨hM, hx, hB3, hown3, z4, hd3', hlo3, hB4, hk4⟩ := HH.out
  clear HH
  obtain ⟨w4, hw4⟩ : ∃ w4, w4 = w3.setCell ⟨w.heap.size, 2, none⟩ (.slice a3 n3 c3) := ⟨_, rfl⟩
  rw [← hw4] at z4 hB4 hk4 ⊢
  have hs4 : w3.heap.size ≤ w4.heap.size := by rw [hw4]; simp [World.setCell]
  clear hw4 m0 q4 s2 f2 hB3
  have hown4 := own_kept' hown3 (fun g hg => hk4 g (by omega))
  have hd4 : Dat w4 (.slice a3 n3 c3) x := hd3'.kept fun g hg => hk4 g (by have := hlo3 g hg; omega)
  have hr := hM.rds
  have m0 : w4.cell? ⟨w.heap.size, 0, none⟩ = some (.string (mk p)) := by rw [Lib.cell_of_heap z4]; rfl
  have m1 : w4.cell? ⟨w.heap.size, 1, none⟩ = some (.int .i64 t) := by rw [Lib.cell_of_heap z4]; rfl
  have m2 : w4.cell? ⟨w.heap.size, 2, none⟩ = some (.slice a3 n3 c3) := by rw [Lib.cell_of_heap z4]; rfl
  have hput := putM_eq ns ⟨p, t, .slice da x.length dc, x⟩
  have hpe : placeR ns (Mv.name ⟨p, t, .slice da x.length dc, x⟩) = placeR ns p := rfl
  rw [hpe] at hput
  have hpl' := fun h => place_some (ns := ns) (b := p) h
  generalize placeR ns p = at' at *
  clear hpe hM hx hd3 hd3' hlo3 hk4 hown3
  by_cases hneg : at' < 0
  · rw [if_pos hneg] at hput
    have hb9 : Below w4.heap.size w4 (w4.alloc (.cells #[.string (mk p), .int .i64 t, .slice a3 n3 c3] 37)) := (Below.refl _ _).alloc (Nat.le_refl _) _
    have hown9 := own_kept hown4 hb9
    have hwz : w.heap.size + 1 ≤ (w4.alloc (.cells #[.string (mk p), .int .i64 t, .slice a3 n3 c3] 37)).heap.size := by rw [size_alloc']; omega
    have HH := hide' (And.intro hput (And.intro hB4 (And.intro hd4 (And.intro hb9 (And.intro hown9 hr)))))
    clear hput hB4 hd4 hb9 hr hpl' hown4 z4
    obtain ⟨inf, hi, hz0, hz1, hz2⟩ := info_parts info37
    go_wp2_with (at_builtin; refine wpList_append_lies _ rfl _ _ 22 rfl (w.heap.size + 1) 37 inf _ 3 48 Tryz.underlying22 hi hz0 hz1 hz2 rfl (by decide) (.slice la ns.length lc) ns.length (flat ns) rfl hown9 ⟨w4.heap.size, 0, none⟩ 1 1 (cellsM ⟨p, t, .slice a3 n3 c3, x⟩) rfl rfl (news_cells w4 ⟨p, t, .slice a3 n3 c3, x⟩) (news_one _ _ _ _ _ _) (by decide) (by unfold maxLen; omega) (by omega) hwz _ rfl ?_)
    intro g9 c9 w9 hown10 hgr hat hlt
    clear hi hz0 hz1 hz2 hown9 hat
    have HG := hide' (And.intro hown10 hgr)
    clear hown10 hgr
    go_wp2
    go_ret
    obtain ⟨hown10, hgr⟩ := HG.out
    obtain ⟨hput, hB4, hd4, hb9, hown9, hr⟩ := HH.out
    have hB9 : Below w.heap.size w w9 := hB4.trans ⟨hgr.os.trans hb9.os, hgr.tape.trans hb9.tape, hgr.output.trans hb9.output, Nat.le_trans hb9.size hgr.size, fun b hb => (hgr.block b (by rw [size_alloc']; omega) (own_lt hown9 (by omega))).trans (hb9.block b (by omega))⟩
    refine ⟨⟨.slice (some ⟨g9, 0, none⟩) (ns.length + 1) c9, ns ++ [⟨p, t, .slice a3 n3 c3, x⟩], rfl, ?_, ?_⟩, hB9⟩
    · have hm := mems_own (ms := ns ++ [⟨p, t, .slice a3 n3 c3, x⟩]) (w := w9) (B := w.heap.size + 1) (l := .slice (some ⟨g9, 0, none⟩) (ns.length + 1) c9) (by rw [flat_snoc, List.length_append]; exact hown10) fun m hm => by
        rcases List.mem_append.1 hm with hm | hm
        · exact (hr m hm).below hB9
        · rw [List.mem_singleton.1 hm]
          exact (dat_grown (hd4.kept fun g hg => hb9.block g (hd4.lt g hg)) hown9 hgr).rds
      exact hm
    · rw [hput]
      unfold putS
      rw [if_pos hneg, List.map_append, List.map_append]
      rfl
  · rw [if_neg hneg] at hput
    obtain ⟨k, hke, hkl⟩ := hpl' hneg
    subst hke
    rcases hown4.2 with ⟨_, e2⟩ | ⟨g, cap', cur, e, hbg, hg, r1, r2, r3, r4⟩
    · omega
    · injection e with e1 _ e3
      subst e1
      subst e3
      obtain ⟨y, hy⟩ : ∃ y, ns[k]? = some y := ⟨_, List.getElem?_eq_getElem hkl⟩
      have c0 := cell_row hg r4 (r := 0) hy (by omega) rfl
      have c1 := cell_row hg r4 (r := 1) hy (by omega) rfl
      have c2 := cell_row hg r4 (r := 2) hy (by omega) rfl
      rw [Nat.add_zero] at c0
      have f0 := Lib.frozen_of_heap hg (k * 3)
      have f1 := Lib.frozen_of_heap hg (k * 3 + 1)
      have f2 := Lib.frozen_of_heap hg (k * 3 + 2)
      have k1 : (k : Int) < ns.length := by omega
      obtain ⟨ya, yc, hye⟩ := (hr y (List.mem_of_getElem? hy)).len
      rw [hye] at c2
      have HH := hide' (And.intro hput (And.intro hB4 (And.intro hd4 (And.intro hg (And.intro r4 hr)))))
      clear hput hB4 hd4 hr hpl' hown4 z4 hg r4 hy
      go_wp2
      go_ret
      obtain ⟨hput, hB4, hd4, hg, r4, hr⟩ := HH.out
      have z5 := set_row (set_row (set_row hg (k * 3) (.string (mk p))) (k * 3 + 1) (.int .i64 t)) (k * 3 + 2) (.slice a3 n3 c3)
      obtain ⟨w5, hw5⟩ : ∃ w5, w5 = ((w4.setCell ⟨g, k * 3, none⟩ (.string (mk p))).setCell ⟨g, k * 3 + 1, none⟩ (.int .i64 t)).setCell ⟨g, k * 3 + 2, none⟩ (.slice a3 n3 c3) := ⟨_, rfl⟩
      have hB5 : Below w.heap.size w w5 := by
        rw [hw5]
        exact ((hB4.setCell (by show w.heap.size ≤ g; omega) _).setCell (by show w.heap.size ≤ g; omega) _).setCell (by show w.heap.size ≤ g; omega) _
      have hk5 : ∀ b, b ≠ g → w5.heap[b]? = w4.heap[b]? := fun b hb => by
        rw [hw5]
        exact (Below.heap_setCell _ ⟨g, k * 3 + 2, none⟩ _ b hb).trans ((Below.heap_setCell _ ⟨g, k * 3 + 1, none⟩ _ b hb).trans (Below.heap_setCell _ ⟨g, k * 3, none⟩ _ b hb))
      rw [← hw5] at z5 ⊢
      clear hw5
      have hd5 : Dat w5 (.slice a3 n3 c3) x := hd4.kept fun b hb => hk5 b (fun e => by
        obtain ⟨cur', hc⟩ := hd4.elem b hb
        rw [e, hg] at hc
        simp at hc)
      have hcell : ∀ (i : Nat) (y : Mv) (r : Nat) (u : Value), (ns.set k ⟨p, t, .slice a3 n3 c3, x⟩)[i]? = some y → r < 3 → (cellsM y)[r]? = some u → w5.cell? ⟨g, i * 3 + r, none⟩ = some u := by
        intro i y r u hy hr3 hu
        rw [Lib.cell_of_heap z5]
        by_cases hik : i = k
        · subst hik
          rw [List.getElem?_set_self hkl] at hy
          cases hy
          rcases r with _ | _ | _ | r
          · cases hu
            rw [Array.getElem?_setIfInBounds_ne (by omega), Array.getElem?_setIfInBounds_ne (by omega), Nat.add_zero, Array.getElem?_setIfInBounds_self_of_lt (by omega)]
          · cases hu
            rw [Array.getElem?_setIfInBounds_ne (by omega), Array.getElem?_setIfInBounds_self_of_lt (by simp; omega)]
          · cases hu
            rw [Array.getElem?_setIfInBounds_self_of_lt (by simp; omega)]
          · omega
        · rw [List.getElem?_set_ne (Ne.symm hik)] at hy
          have h0 := cell_row hg r4 hy hr3 hu
          rw [Lib.cell_of_heap hg] at h0
          rw [Array.getElem?_setIfInBounds_ne (by omega), Array.getElem?_setIfInBounds_ne (by omega), Array.getElem?_setIfInBounds_ne (by omega)]
          exact h0
      refine ⟨⟨.slice (some ⟨g, 0, none⟩) ns.length lc, ns.set k ⟨p, t, .slice a3 n3 c3, x⟩, rfl, .inr ⟨g, 0, lc, by rw [List.length_set], by rw [List.length_set]; exact r1, ⟨lt_of_block z5, fun i n hi => ?_, fun i n hi => ?_, fun i n hi => ?_⟩, fun m hm => ?_⟩, ?_⟩, hB5⟩
      · rw [Nat.zero_add]; exact hcell i n 0 _ hi (by omega) rfl
      · rw [Nat.zero_add]; exact hcell i n 1 _ hi (by omega) rfl
      · rw [Nat.zero_add]; exact hcell i n 2 _ hi (by omega) rfl
      · rcases List.mem_or_eq_of_mem_set hm with hm | rfl
        · exact (hr m hm).below hB5
        · exact hd5.rds
      · rw [hput]
        unfold putS
        rw [if_neg (by omega), Int.toNat_natCast, List.map_set, List.map_set]
        rfl
theorem Pm_any (v : Value) (ns : List Mv) (m : Mv) (w : World) (h : Mems w v ns) (hm : Rds w m.dv m.data) (hl : ns.length ≤ 100000) (hpl : m.name.length ≤ 300000) (hxl : m.data.length ≤ 300000) :
    Calls Tryz.prog 21 #[v, .agg #[.string (mk m.name), .int .i64 m.date, m.dv]] w fun r w' => MmR ((putM ns m).map toE) w' r ∧ Below w.heap.size w w' := by
  obtain ⟨da, dc, hdv⟩ := hm.len
  obtain ⟨sa, cap, hv⟩ := h.len
  obtain ⟨p, t, dv, x⟩ := m
  dsimp only at *
  subst hdv
  subst hv
  exact pm_any' sa cap ns p t da dc x w h hm hl hpl hxl
end Go.Proofs.YtcijjigafcpcpaaGreatDoor
