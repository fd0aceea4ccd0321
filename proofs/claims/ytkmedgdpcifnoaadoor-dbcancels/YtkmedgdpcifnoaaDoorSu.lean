/- The contract of db.suffixes. -/
import Derived.Test.YtkmedgdpcifnoaaDoorRl
import Derived.Test.YtkmedgdpcifnoaaDoorCpo
import Derived.Deep.Cut
import Derived.Deep.CutBlock
import Derived.Deep.QuietTactic
import Derived.Deep.AppendSrc
import Derived.Laws.AppendOwn
namespace Go.Proofs.YtkmedgdpcifnoaaDoor
open Go.RowKit Go.Shelf

/-- texts to which more can be put: a row of the call's own, or a slice without room -/
def LfAt (w : World) (B : Nat) (v : Value) (L : List Bs) : Prop := OwnS w B v L ∨ ∃ a, v = .slice a L.length L.length ∧ Strs w v L
theorem LfAt.below {w w' : World} {B : Nat} {v : Value} {L : List Bs} (h : LfAt w B v L) (hb : Below w.heap.size w w') : LfAt w' B v L := h.imp (fun h => own_below h hb) (fun ⟨a, e, h⟩ => ⟨a, e, h.below hb⟩)
theorem LfAt.reads {w : World} {B : Nat} {v : Value} {L : List Bs} (h : LfAt w B v L) : Strs w v L := by
  rcases h with h | ⟨_, _, h⟩
  · exact Strs.of_row h
  · exact h
theorem info9' : ∃ i : TypeInfo, Tryd.prog.info? 9 = some i ∧ i.zero = some (.string ⟨#[]⟩) ∧ i.size = 1 ∧ i.bytes = 16 := info_parts info9
theorem str_news {w : World} {b off : Nat} {N : List Bs} (hc : ∀ j, j < N.length → w.cell? ⟨b, off + j, none⟩ = some (sV (N.getD j []))) : ∀ j u, (N.map sV)[j]? = some u → w.cell? ((⟨b, off, none⟩ : Addr).add j) = some u := by
  intro j u h
  rw [Addr.add_lit]
  have hj : j < N.length := by have := (List.getElem?_eq_some_iff.1 h).1; simpa using this
  rw [hc j hj, ← h, List.getElem?_map, List.getD_eq_getElem?_getD, List.getElem?_eq_getElem hj]
  rfl
/-- what a new row holds -/
theorem new_row (w : World) (B n old : Nat) (L : List Bs) (hn : L.length = n) (hB : B ≤ w.heap.size) (hm : n ≤ maxLen) :
    OwnS (w.drew.alloc (.cells ((L.map sV).toArray ++ Builtin.zeroCells (Value.string ⟨#[]⟩).cells (grownCap w n old 9 - n)) 9)) B (.slice (some ⟨w.heap.size, 0, none⟩) n (grownCap w n old 9)) L := by
  have hge := grownCap_ge w n old 9
  have hcm := grownCap_le_maxLen w n old 9 hm
  subst hn
  refine ⟨by simp, .inr ⟨w.heap.size, _, _, rfl, hB, heap_alloc_new w.drew _, hge, hcm, ?_, ?_⟩⟩
  · simp only [Array.size_append, List.size_toArray, size_zeroCells, List.length_map]
    have : (Value.string ⟨#[]⟩).cells.size = 1 := rfl
    rw [this]
    omega
  · simp only [Array.toList_append]
    have e : (L.map sV).length = L.length * 1 := by simp
    rw [← e]
    exact List.take_left
/-- an append whose run is known -/
theorem wp_app_run {P : Program} {w : World} {o : Oper} {a : Act} {K : Act → World → Prop} {Q : Exit → Act → World → Prop} (s x : Operand) (t : TypeId)
    (ho : o.op = .call { callee := .builtin .append, args := #[s, x], argTypes := #[t, t] }) (v x' v' : Value) (w' : World) (hs : a.eval s = v) (hx : a.eval x = x')
    (hr : ∀ ty : TypeId, (Builtin.append_ #[t, t] ty #[v, x']).run P w = .ok v' w') (h : K (a.put o.dst v') w') : o.wp P a w K Q := by
  unfold Oper.wp execOp
  simp only [ho, resolve, invoke, builtin, Sem.run_bind, Sem.run_pure, Result.andThen_ok, List.map_toArray, List.map_cons, List.map_nil, hs, hx, hr]
  exact h
theorem wpList_app_run {P : Program} {w : World} {ops : Array Oper} {rest : List Oper} {o : Oper} {a : Act} {Q : Exit → Act → World → Prop} (hgd : o.guard = none) (s x : Operand) (t : TypeId)
    (ho : o.op = .call { callee := .builtin .append, args := #[s, x], argTypes := #[t, t] }) (v x' v' : Value) (w' : World) (hs : a.eval s = v) (hx : a.eval x = x')
    (hr : ∀ ty : TypeId, (Builtin.append_ #[t, t] ty #[v, x']).run P w = .ok v' w') (h : wpList P ops Q rest (a.put o.dst v') w') : wpList P ops Q (o :: rest) a w :=
  wpList_plain hgd fun _ hK => wp_app_run s x t ho v x' v' w' hs hx hr (hK _ _ h)
/-- texts are put behind texts -/
theorem app_lf {w : World} {B : Nat} {v : Value} {L N : List Bs} (h : LfAt w B v L) (b off c : Nat) (hc : ∀ j, j < N.length → w.cell? ⟨b, off + j, none⟩ = some (sV (N.getD j []))) (hN : 0 < N.length) (hl : L.length + N.length ≤ 1000000000) (hB : B ≤ w.heap.size) :
    ∃ v' w', (∀ ty : TypeId, (Builtin.append_ #[25, 25] ty #[v, .slice (some ⟨b, off, none⟩) N.length c]).run Tryd.prog w = .ok v' w') ∧ OwnS w' B v' (L ++ N) ∧ Below B w w' := by
  obtain ⟨i0, hi, hz0, hz1, hz2⟩ := info9'
  have hnews := str_news hc
  have hl1 : (N.map sV).length = N.length * i0.size := by rw [hz1]; simp
  have hfit : ∀ old, old < L.length + N.length → Builtin.nextslicecap (L.length + N.length) old * i0.bytes ≤ 281474976710656 := fun old ho => growslice_fits ho (by rw [hz2]; omega)
  have hnb : ∀ cs : Array Value, Below B w (w.drew.alloc (.cells cs 9)) := fun cs => below_alloc (B := B) (w := w) (w' := w.drew) ((Below.refl B w).drew) hB (.cells cs 9)
  have hone : ∀ u ∈ N.map sV, u.oneCell' = true := by
    intro u hu
    obtain ⟨x, _, rfl⟩ := List.mem_map.1 hu
    rfl
  rcases h with h | ⟨a, rfl, h⟩
  · have run := fun ty => run_append_own_at w B 25 ty 9 i0 (.string ⟨#[]⟩) 1 16 Tryd.underlying25 hi hz0 hz1 hz2 rfl (by decide) v L.length (L.map sV) h ⟨b, off, none⟩ N.length c (N.map sV) (by simp) hnews hone (by unfold maxLen; omega) (by omega) hB
    obtain ⟨v', w', hr, ho, hg, _, _⟩ := run 0
    refine ⟨v', w', fun ty => ?_, ?_, (Below.refl B w).grown hg hB (fun j hj => own_low h j hj)⟩
    · rw [← hr]; rfl
    · unfold OwnS
      rw [List.length_append, List.map_append]
      exact ho
  · have key : ∀ (olds : List Bs) (base : Option Addr), L = olds → (Builtin.firstCells i0.size L.length (.slice base L.length L.length)).run Tryd.prog w.drew = .ok (L.map sV).toArray w.drew → base = a → ∃ v' w', (∀ ty : TypeId, (Builtin.append_ #[25, 25] ty #[.slice base L.length L.length, .slice (some ⟨b, off, none⟩) N.length c]).run Tryd.prog w = .ok v' w') ∧ OwnS w' B v' (L ++ N) ∧ Below B w w' := by
      intro olds base _ hold _
      have hS : Src Tryd.prog i0.size 25 (.slice (some ⟨b, off, none⟩) N.length c) N.length (N.map sV) w := Src.ofSlice w Tryd.underlying25 ⟨b, off, none⟩ N.length c (N.map sV) hl1 hnews hone
      have hr := fun ty => run_append_grow_src (P := Tryd.prog) (w := w) 25 25 ty 9 i0 (.string ⟨#[]⟩) Tryd.underlying25 hi hz0 base L.length L.length (L.map sV) hold (.slice (some ⟨b, off, none⟩) N.length c) N.length (N.map sV) hS (by omega) (by omega) (hfit _ (by omega))
      refine ⟨_, _, hr, ?_, hnb _⟩
      have := new_row w B (L.length + N.length) L.length (L ++ N) (by simp) hB (by unfold maxLen; omega)
      rw [List.map_append] at this
      exact this
    rcases h with ⟨a', c', e, h0⟩ | ⟨b', off', cap', e, hb', hc'⟩
    · subst h0
      refine key [] a rfl ?_ rfl
      cases a with
      | none => exact run_firstCells_none w.drew i0.size 0 0 0
      | some ad => exact run_firstCells_some w.drew i0.size 0 ad 0 0 [] (by simp) (fun j u h => by simp at h)
    · simp only [Value.slice.injEq] at e
      obtain ⟨rfl, _, _⟩ := e
      exact key L _ rfl (run_firstCells_some w.drew i0.size L.length ⟨b', off', none⟩ L.length L.length (L.map sV) (by rw [hz1]; simp) (fun j u hj => str_news (w := w) hc' j u hj)) rfl
/-- how many prerequisites there are -/
def psum (rs : List Ru) : Nat := (rs.map fun r => r.ps.length).sum
theorem suf_len (rs : List Ru) : ∀ l : List Bs, (rs.foldl sufS l).length ≤ l.length + psum rs := by
  induction rs with
  | nil => intro l; simp [psum]
  | cons r t ih =>
    intro l
    refine Nat.le_trans (ih _) ?_
    unfold sufS psum
    split
    · split <;> simp <;> omega
    · simp
theorem psum_take : ∀ (rs : List Ru) (k : Nat), psum (rs.take k) ≤ psum rs
  | [], k => by simp [psum]
  | r :: t, 0 => by simp [psum]
  | r :: t, k + 1 => by
    have := psum_take t k
    unfold psum at *
    rw [List.take_succ_cons, List.map_cons, List.map_cons, List.sum_cons, List.sum_cons]
    omega
theorem slice_zero (a : Option Addr) (n c : Nat) (W : World) : (Instr.slice 25 (.slice a n c) none (some (.int .i64 0)) (some (.int .i64 0))).run Tryd.prog W = .ok (.slice a 0 0) W := by
  have h1 : (0 : Int) ≤ (c : Int) := by omega
  cases a <;> go_simp
set_option maxRecDepth 100000 in
set_option maxHeartbeats 4000000 in
theorem suffixes_some (plain : Bool) (L : List Rx) (b off cap : Nat) (w : World) (hl : L.length ≤ 100000) (hps : psum (L.map (·.r)) ≤ 100000000) (hb : b < w.heap.size) (hS : ∀ x ∈ L, RxS w x) (hn : ∀ x ∈ L, x.r.ts.length ≤ 100000) (hc : ∀ j, j < L.length → RuAt w b (off + j * 11) (L.getD j zeroRx)) :
    Calls Tryd.prog 31 #[.slice (some ⟨b, off, none⟩) L.length cap, .bool plain] w fun e w' => ∃ v, e = .returned v ∧ LfAt w' w.heap.size v (sufP plain (L.map (·.r))) ∧ Below w.heap.size w w' := by
  have h0 : LfAt (w.alloc (.cells #[.string ⟨#[46, 111, 117, 116]⟩, .string ⟨#[46, 97]⟩, .string ⟨#[46, 111]⟩, .string ⟨#[46, 99]⟩, .string ⟨#[46, 104]⟩] 87)) w.heap.size (.slice (some ⟨w.heap.size, 0, none⟩) 5 5) known := by
    refine .inr ⟨_, rfl, .inr ⟨_, 0, _, rfl, by simp, fun j hj => ?_⟩⟩
    rw [Nat.zero_add, Lib.cell_of_heap (heap_alloc_new w _)]
    have hj' : j < 5 := hj
    rcases (show j = 0 ∨ j = 1 ∨ j = 2 ∨ j = 3 ∨ j = 4 by omega) with rfl | rfl | rfl | rfl | rfl <;> rfl
  have hB0 : Below w.heap.size w (w.alloc (.cells #[.string ⟨#[46, 111, 117, 116]⟩, .string ⟨#[46, 97]⟩, .string ⟨#[46, 111]⟩, .string ⟨#[46, 99]⟩, .string ⟨#[46, 104]⟩] 87)) := (Below.refl _ w).alloc (Nat.le_refl _) _
  cases plain with
  | true =>
    have hst : LfAt (w.alloc (.cells #[.string ⟨#[46, 111, 117, 116]⟩, .string ⟨#[46, 97]⟩, .string ⟨#[46, 111]⟩, .string ⟨#[46, 99]⟩, .string ⟨#[46, 104]⟩] 87)) w.heap.size (.slice none 0 0) [] := .inr ⟨_, rfl, Strs.nil _⟩
    have hfin : Hid (∀ rs, sufP true rs = rs.foldl sufS []) := fun _ => rfl
    clear h0
    go_enter Tryd.func31, Tryd.ntmps31
    go_wp2
    generalize w.alloc (.cells #[.string ⟨#[46, 111, 117, 116]⟩, .string ⟨#[46, 97]⟩, .string ⟨#[46, 111]⟩, .string ⟨#[46, 99]⟩, .string ⟨#[46, 104]⟩] 87) = w0 at hst hB0 ⊢
    go_loopw [14, 6] (fun i v wr => ∃ (k n c : Nat) (a : Option Addr), k ≤ L.length ∧ i = .int .i64 k ∧ v = .slice a n c ∧ LfAt wr w.heap.size (.slice a n c) (((L.take k).map (·.r)).foldl sufS []) ∧ Below w.heap.size w wr) (fun i _ _ => L.length - (intOf i).toNat)
    case atStart => exact ⟨0, _, _, _, Nat.zero_le _, rfl, rfl, hst, hB0⟩
    case round =>
      clear hst hB0
      obtain ⟨k, nv, cv, av, hk, rfl, rfl, hL, hB⟩ := hrel
      by_cases hlt : k < L.length
      · have cc := (hc k hlt).block (hB.block b hb)
        have hmem : L.getD k zeroRx ∈ L := by rw [List.getD_eq_getElem?_getD, List.getElem?_eq_getElem hlt]; exact List.getElem_mem hlt
        have hx := hn _ hmem
        have hxs := (hS _ hmem).below hB
        have hlen : (((L.take k).map (·.r)).foldl sufS []).length + (L.getD k zeroRx).r.ps.length ≤ 900000000 := by
          have h1 := suf_len ((L.take k).map (·.r)) []
          have h2 := suf_len ((L.take (k + 1)).map (·.r)) []
          have h3 := psum_take (L.map (·.r)) k
          have h4 := psum_take (L.map (·.r)) (k + 1)
          rw [← List.map_take] at h3 h4
          have h5 : psum ((L.take (k + 1)).map (·.r)) = psum ((L.take k).map (·.r)) + (L.getD k zeroRx).r.ps.length := by
            unfold psum
            rw [List.take_succ_eq_append_getElem hlt, List.map_append, List.map_append, List.sum_append, List.getD_eq_getElem?_getD, List.getElem?_eq_getElem hlt]
            simp
          have h6 : ([] : List Bs).length ≤ 5 := by decide
          omega
        have HT : Hid (sufS (((L.take k).map (·.r)).foldl sufS []) (L.getD k zeroRx).r = ((L.take (k + 1)).map (·.r)).foldl sufS []) := by
          show _ = _
          rw [List.take_succ_eq_append_getElem hlt, List.map_append, List.foldl_append, List.getD_eq_getElem?_getD, List.getElem?_eq_getElem hlt]
          rfl
        generalize ((L.take k).map (·.r)).foldl sufS [] = l at hL hlen HT
        generalize L.getD k zeroRx = x at cc hx hxs hlen HT
        obtain ⟨⟨rts, rps, ros, rdbl, rpat, rter, rsta, rrcp, rhas, raga, rblt⟩, va, vb, vc, vd⟩ := x
        obtain ⟨q0, q1, q2, q3, q4, q5, q6, q7, q8, q9, q10⟩ := cc
        obtain ⟨s0, s1, s2, s3⟩ := hxs
        simp only at q0 q1 q2 q3 q4 q5 q6 q7 q8 q9 q10 s0 s1 s2 s3 hx hlen HT
        obtain ⟨aa, na, ca, rfl⟩ := s0.form3
        obtain ⟨ac, nc, cc, rfl⟩ := s2.form3
        obtain ⟨ad, nd, cd, rfl⟩ := s3.form3
        obtain ⟨ab, cb, hvb⟩ := s1.form
        obtain ⟨m, hm⟩ : ∃ m, m = rps.length := ⟨_, rfl⟩
        rw [← hm] at hvb
        have HM := hide' hm
        clear hm
        subst hvb
        have kC := fun W (hW : Below wr.heap.size wr W) => contains_any rts _ sufN W hx (s0.below hW)
        have HS1 := hide' s1
        have hsz := hB.size
        have HL := hide' hL
        have HB := hide' hB
        have HC := hide' hc
        have HN := hide' hn
        have HSS := hide' hS
        have HPS := hide' hps
        have HBB := hide' hb
        have HLEN := hide' hlen
        obtain ⟨sta, hsta⟩ : ∃ sta, sta = mk rsta := ⟨_, rfl⟩
        obtain ⟨aga, haga⟩ : ∃ aga, aga = mk raga := ⟨_, rfl⟩
        rw [← hsta] at q6
        rw [← haga] at q9
        clear hsta haga hL hB hc hn hS hps hb hlen s0 s1 s2 s3 hmem hx
        go_upto_region 9 with fail
        have hx5 : Bx11 (wr.alloc (.cells #[.slice aa na ca, .slice ab m cb, .slice ac nc cc, .bool rdbl, .bool rpat, .bool rter, .string sta, .slice ad nd cd, .bool rhas, .string aga, .bool rblt] 43)) wr.heap.size (.slice aa na ca) (.slice ab m cb) (.slice ac nc cc) (.bool rdbl) (.bool rpat) (.bool rter) (.string sta) (.slice ad nd cd) (.bool rhas) (.string aga) (.bool rblt) := bx11_at wr (.slice aa na ca) (.slice ab m cb) (.slice ac nc cc) (.bool rdbl) (.bool rpat) (.bool rter) (.string sta) (.slice ad nd cd) (.bool rhas) (.string aga) (.bool rblt)
        have hB5 : Below wr.heap.size wr (wr.alloc (.cells #[.slice aa na ca, .slice ab m cb, .slice ac nc cc, .bool rdbl, .bool rpat, .bool rter, .string sta, .slice ad nd cd, .bool rhas, .string aga, .bool rblt] 43)) := (Below.refl _ wr).alloc (Nat.le_refl _) _
        generalize wr.alloc (.cells #[.slice aa na ca, .slice ab m cb, .slice ac nc cc, .bool rdbl, .bool rpat, .bool rter, .string sta, .slice ad nd cd, .bool rhas, .string aga, .bool rblt] 43) = W5 at hx5 hB5 ⊢
        clear q0 q1 q2 q3 q4 q5 q6 q7 q8 q9 q10
        have f0 := hx5.c0
        have f1 := hx5.c1
        clear hx5
        go_wp2_with fail
        refine (kC _ hB5).mono ?_
        rintro e w1 ⟨rfl, rfl⟩
        clear kC
        cases hh : hasB rts sufN with
        | false =>
          have HT' : Hid (l = ((L.take (k + 1)).map (·.r)).foldl sufS []) := by
            have := HT.out
            unfold sufS at this
            simp only [hh] at this
            exact this
          have hL1 : LfAt w1 w.heap.size (.slice av nv cv) (((L.take (k + 1)).map (·.r)).foldl sufS []) := HT'.out ▸ HL.out.below hB5
          have hB1 := HB.out.trans (hB5.mono HB.out.size)
          have HL1 := hide' hL1
          clear HT hL1 hh HL HB hB5
          go_wp2
          exact ⟨⟨k + 1, _, _, _, by omega, by go_num, rfl, HL1.out, hB1⟩, by simp [intOf]; omega⟩
        | true =>
          by_cases hz : m = 0
          · subst hz
            have HT' : Hid ([] = ((L.take (k + 1)).map (·.r)).foldl sufS []) := by
              have := HT.out
              unfold sufS at this
              have h0 : rps.length = 0 := HM.out.symm
              simp only [hh, h0, if_true] at this
              exact this
            have hL1 : LfAt w1 w.heap.size (.slice av 0 0) (((L.take (k + 1)).map (·.r)).foldl sufS []) := HT'.out ▸ (.inr ⟨av, rfl, .inl ⟨_, _, rfl, rfl⟩⟩)
            have hB1 := HB.out.trans (hB5.mono HB.out.size)
            have HL1 := hide' hL1
            have hsl := slice_zero av nv cv
            clear HT hL1 hh HL HB hB5
            go_wp2
            exact ⟨⟨k + 1, _, _, _, by omega, by go_num, rfl, HL1.out, hB1⟩, by simp [intOf]; omega⟩
          · have HT' : Hid (l ++ rps = ((L.take (k + 1)).map (·.r)).foldl sufS []) := by
              have := HT.out
              unfold sufS at this
              have h0 : ¬ rps.length = 0 := by rw [← HM.out]; exact hz
              simp only [hh, h0, if_true, if_false] at this
              exact this
            have hB1 := HB.out.trans (hB5.mono HB.out.size)
            obtain ⟨b2, off2, rfl, hc2⟩ : ∃ b2 off2, ab = some ⟨b2, off2, none⟩ ∧ ∀ j, j < rps.length → w1.cell? ⟨b2, off2 + j, none⟩ = some (sV (rps.getD j [])) := by
              rcases HS1.out.below hB5 with ⟨_, _, e1, h0⟩ | ⟨b2, off2, cap2, e1, _, hc2⟩
              · exact absurd (by rw [HM.out, h0]; rfl) hz
              · simp only [Value.slice.injEq] at e1
                exact ⟨b2, off2, e1.1, hc2⟩
            obtain ⟨v', w2, hr, ho, hb2⟩ := app_lf (HL.out.below hB5) b2 off2 cb (N := rps) hc2 (by have := HM.out; omega) (by have := HLEN.out; omega) hB1.size
            rw [← HM.out] at hr
            obtain ⟨a2, n2, c2, rfl⟩ := own_form3 ho
            have hL1 : LfAt w2 w.heap.size (.slice a2 n2 c2) (((L.take (k + 1)).map (·.r)).foldl sufS []) := HT'.out ▸ (.inl ho)
            have hB2 := hB1.trans hb2
            have HL1 := hide' hL1
            have HR := hide' hr
            have hz' : ¬ (m : Int) = 0 := by omega
            clear HT hL1 hh HL HB hB5 hB1 ho hb2 hr hc2 HT' HS1
            dsimp only
            go_wp2_with (at_builtin; refine wpList_app_run rfl _ _ 25 rfl _ _ _ _ rfl rfl HR.out ?_)
            exact ⟨⟨k + 1, _, _, _, by omega, by go_num, rfl, HL1.out, hB2⟩, by simp [intOf]; omega⟩
      · have hke : L.take k = L := List.take_of_length_le (by omega)
        rw [hke, ← hfin.out] at hL
        have HL := hide' hL
        clear hL hke hc hn hS hps
        go_wp2
        go_ret
        exact ⟨_, rfl, HL.out, hB⟩
  | false =>
    have hst : LfAt (w.alloc (.cells #[.string ⟨#[46, 111, 117, 116]⟩, .string ⟨#[46, 97]⟩, .string ⟨#[46, 111]⟩, .string ⟨#[46, 99]⟩, .string ⟨#[46, 104]⟩] 87)) w.heap.size (.slice (some ⟨w.heap.size, 0, none⟩) 5 5) known := h0
    have hfin : Hid (∀ rs, sufP false rs = rs.foldl sufS known) := fun _ => rfl
    clear h0
    go_enter Tryd.func31, Tryd.ntmps31
    go_wp2
    generalize w.alloc (.cells #[.string ⟨#[46, 111, 117, 116]⟩, .string ⟨#[46, 97]⟩, .string ⟨#[46, 111]⟩, .string ⟨#[46, 99]⟩, .string ⟨#[46, 104]⟩] 87) = w0 at hst hB0 ⊢
    go_loopw [14, 6] (fun i v wr => ∃ (k n c : Nat) (a : Option Addr), k ≤ L.length ∧ i = .int .i64 k ∧ v = .slice a n c ∧ LfAt wr w.heap.size (.slice a n c) (((L.take k).map (·.r)).foldl sufS known) ∧ Below w.heap.size w wr) (fun i _ _ => L.length - (intOf i).toNat)
    case atStart => exact ⟨0, _, _, _, Nat.zero_le _, rfl, rfl, hst, hB0⟩
    case round =>
      clear hst hB0
      obtain ⟨k, nv, cv, av, hk, rfl, rfl, hL, hB⟩ := hrel
      by_cases hlt : k < L.length
      · have cc := (hc k hlt).block (hB.block b hb)
        have hmem : L.getD k zeroRx ∈ L := by rw [List.getD_eq_getElem?_getD, List.getElem?_eq_getElem hlt]; exact List.getElem_mem hlt
        have hx := hn _ hmem
        have hxs := (hS _ hmem).below hB
        have hlen : (((L.take k).map (·.r)).foldl sufS known).length + (L.getD k zeroRx).r.ps.length ≤ 900000000 := by
          have h1 := suf_len ((L.take k).map (·.r)) known
          have h2 := suf_len ((L.take (k + 1)).map (·.r)) []
          have h3 := psum_take (L.map (·.r)) k
          have h4 := psum_take (L.map (·.r)) (k + 1)
          rw [← List.map_take] at h3 h4
          have h5 : psum ((L.take (k + 1)).map (·.r)) = psum ((L.take k).map (·.r)) + (L.getD k zeroRx).r.ps.length := by
            unfold psum
            rw [List.take_succ_eq_append_getElem hlt, List.map_append, List.map_append, List.sum_append, List.getD_eq_getElem?_getD, List.getElem?_eq_getElem hlt]
            simp
          have h6 : (known : List Bs).length ≤ 5 := by decide
          omega
        have HT : Hid (sufS (((L.take k).map (·.r)).foldl sufS known) (L.getD k zeroRx).r = ((L.take (k + 1)).map (·.r)).foldl sufS known) := by
          show _ = _
          rw [List.take_succ_eq_append_getElem hlt, List.map_append, List.foldl_append, List.getD_eq_getElem?_getD, List.getElem?_eq_getElem hlt]
          rfl
        generalize ((L.take k).map (·.r)).foldl sufS known = l at hL hlen HT
        generalize L.getD k zeroRx = x at cc hx hxs hlen HT
        obtain ⟨⟨rts, rps, ros, rdbl, rpat, rter, rsta, rrcp, rhas, raga, rblt⟩, va, vb, vc, vd⟩ := x
        obtain ⟨q0, q1, q2, q3, q4, q5, q6, q7, q8, q9, q10⟩ := cc
        obtain ⟨s0, s1, s2, s3⟩ := hxs
        simp only at q0 q1 q2 q3 q4 q5 q6 q7 q8 q9 q10 s0 s1 s2 s3 hx hlen HT
        obtain ⟨aa, na, ca, rfl⟩ := s0.form3
        obtain ⟨ac, nc, cc, rfl⟩ := s2.form3
        obtain ⟨ad, nd, cd, rfl⟩ := s3.form3
        obtain ⟨ab, cb, hvb⟩ := s1.form
        obtain ⟨m, hm⟩ : ∃ m, m = rps.length := ⟨_, rfl⟩
        rw [← hm] at hvb
        have HM := hide' hm
        clear hm
        subst hvb
        have kC := fun W (hW : Below wr.heap.size wr W) => contains_any rts _ sufN W hx (s0.below hW)
        have HS1 := hide' s1
        have hsz := hB.size
        have HL := hide' hL
        have HB := hide' hB
        have HC := hide' hc
        have HN := hide' hn
        have HSS := hide' hS
        have HPS := hide' hps
        have HBB := hide' hb
        have HLEN := hide' hlen
        obtain ⟨sta, hsta⟩ : ∃ sta, sta = mk rsta := ⟨_, rfl⟩
        obtain ⟨aga, haga⟩ : ∃ aga, aga = mk raga := ⟨_, rfl⟩
        rw [← hsta] at q6
        rw [← haga] at q9
        clear hsta haga hL hB hc hn hS hps hb hlen s0 s1 s2 s3 hmem hx
        go_upto_region 9 with fail
        have hx5 : Bx11 (wr.alloc (.cells #[.slice aa na ca, .slice ab m cb, .slice ac nc cc, .bool rdbl, .bool rpat, .bool rter, .string sta, .slice ad nd cd, .bool rhas, .string aga, .bool rblt] 43)) wr.heap.size (.slice aa na ca) (.slice ab m cb) (.slice ac nc cc) (.bool rdbl) (.bool rpat) (.bool rter) (.string sta) (.slice ad nd cd) (.bool rhas) (.string aga) (.bool rblt) := bx11_at wr (.slice aa na ca) (.slice ab m cb) (.slice ac nc cc) (.bool rdbl) (.bool rpat) (.bool rter) (.string sta) (.slice ad nd cd) (.bool rhas) (.string aga) (.bool rblt)
        have hB5 : Below wr.heap.size wr (wr.alloc (.cells #[.slice aa na ca, .slice ab m cb, .slice ac nc cc, .bool rdbl, .bool rpat, .bool rter, .string sta, .slice ad nd cd, .bool rhas, .string aga, .bool rblt] 43)) := (Below.refl _ wr).alloc (Nat.le_refl _) _
        generalize wr.alloc (.cells #[.slice aa na ca, .slice ab m cb, .slice ac nc cc, .bool rdbl, .bool rpat, .bool rter, .string sta, .slice ad nd cd, .bool rhas, .string aga, .bool rblt] 43) = W5 at hx5 hB5 ⊢
        clear q0 q1 q2 q3 q4 q5 q6 q7 q8 q9 q10
        have f0 := hx5.c0
        have f1 := hx5.c1
        clear hx5
        go_wp2_with fail
        refine (kC _ hB5).mono ?_
        rintro e w1 ⟨rfl, rfl⟩
        clear kC
        cases hh : hasB rts sufN with
        | false =>
          have HT' : Hid (l = ((L.take (k + 1)).map (·.r)).foldl sufS known) := by
            have := HT.out
            unfold sufS at this
            simp only [hh] at this
            exact this
          have hL1 : LfAt w1 w.heap.size (.slice av nv cv) (((L.take (k + 1)).map (·.r)).foldl sufS known) := HT'.out ▸ HL.out.below hB5
          have hB1 := HB.out.trans (hB5.mono HB.out.size)
          have HL1 := hide' hL1
          clear HT hL1 hh HL HB hB5
          go_wp2
          exact ⟨⟨k + 1, _, _, _, by omega, by go_num, rfl, HL1.out, hB1⟩, by simp [intOf]; omega⟩
        | true =>
          by_cases hz : m = 0
          · subst hz
            have HT' : Hid ([] = ((L.take (k + 1)).map (·.r)).foldl sufS known) := by
              have := HT.out
              unfold sufS at this
              have h0 : rps.length = 0 := HM.out.symm
              simp only [hh, h0, if_true] at this
              exact this
            have hL1 : LfAt w1 w.heap.size (.slice av 0 0) (((L.take (k + 1)).map (·.r)).foldl sufS known) := HT'.out ▸ (.inr ⟨av, rfl, .inl ⟨_, _, rfl, rfl⟩⟩)
            have hB1 := HB.out.trans (hB5.mono HB.out.size)
            have HL1 := hide' hL1
            have hsl := slice_zero av nv cv
            clear HT hL1 hh HL HB hB5
            go_wp2
            exact ⟨⟨k + 1, _, _, _, by omega, by go_num, rfl, HL1.out, hB1⟩, by simp [intOf]; omega⟩
          · have HT' : Hid (l ++ rps = ((L.take (k + 1)).map (·.r)).foldl sufS known) := by
              have := HT.out
              unfold sufS at this
              have h0 : ¬ rps.length = 0 := by rw [← HM.out]; exact hz
              simp only [hh, h0, if_true, if_false] at this
              exact this
            have hB1 := HB.out.trans (hB5.mono HB.out.size)
            obtain ⟨b2, off2, rfl, hc2⟩ : ∃ b2 off2, ab = some ⟨b2, off2, none⟩ ∧ ∀ j, j < rps.length → w1.cell? ⟨b2, off2 + j, none⟩ = some (sV (rps.getD j [])) := by
              rcases HS1.out.below hB5 with ⟨_, _, e1, h0⟩ | ⟨b2, off2, cap2, e1, _, hc2⟩
              · exact absurd (by rw [HM.out, h0]; rfl) hz
              · simp only [Value.slice.injEq] at e1
                exact ⟨b2, off2, e1.1, hc2⟩
            obtain ⟨v', w2, hr, ho, hb2⟩ := app_lf (HL.out.below hB5) b2 off2 cb (N := rps) hc2 (by have := HM.out; omega) (by have := HLEN.out; omega) hB1.size
            rw [← HM.out] at hr
            obtain ⟨a2, n2, c2, rfl⟩ := own_form3 ho
            have hL1 : LfAt w2 w.heap.size (.slice a2 n2 c2) (((L.take (k + 1)).map (·.r)).foldl sufS known) := HT'.out ▸ (.inl ho)
            have hB2 := hB1.trans hb2
            have HL1 := hide' hL1
            have HR := hide' hr
            have hz' : ¬ (m : Int) = 0 := by omega
            clear HT hL1 hh HL HB hB5 hB1 ho hb2 hr hc2 HT' HS1
            dsimp only
            go_wp2_with (at_builtin; refine wpList_app_run rfl _ _ 25 rfl _ _ _ _ rfl rfl HR.out ?_)
            exact ⟨⟨k + 1, _, _, _, by omega, by go_num, rfl, HL1.out, hB2⟩, by simp [intOf]; omega⟩
      · have hke : L.take k = L := List.take_of_length_le (by omega)
        rw [hke, ← hfin.out] at hL
        have HL := hide' hL
        clear hL hke hc hn hS hps
        go_wp2
        go_ret
        exact ⟨_, rfl, HL.out, hB⟩
theorem suffixes_nil (plain : Bool) (a : Option Addr) (cap : Nat) (w : World) :
    Calls Tryd.prog 31 #[.slice a 0 cap, .bool plain] w fun e w' => ∃ v, e = .returned v ∧ LfAt w' w.heap.size v (sufP plain []) ∧ Below w.heap.size w w' := by
  have h0 : LfAt (w.alloc (.cells #[.string ⟨#[46, 111, 117, 116]⟩, .string ⟨#[46, 97]⟩, .string ⟨#[46, 111]⟩, .string ⟨#[46, 99]⟩, .string ⟨#[46, 104]⟩] 87)) w.heap.size (.slice (some ⟨w.heap.size, 0, none⟩) 5 5) known := by
    refine .inr ⟨_, rfl, .inr ⟨_, 0, _, rfl, by simp, fun j hj => ?_⟩⟩
    rw [Nat.zero_add, Lib.cell_of_heap (heap_alloc_new w _)]
    have hj' : j < 5 := hj
    rcases (show j = 0 ∨ j = 1 ∨ j = 2 ∨ j = 3 ∨ j = 4 by omega) with rfl | rfl | rfl | rfl | rfl <;> rfl
  have hB0 : Below w.heap.size w (w.alloc (.cells #[.string ⟨#[46, 111, 117, 116]⟩, .string ⟨#[46, 97]⟩, .string ⟨#[46, 111]⟩, .string ⟨#[46, 99]⟩, .string ⟨#[46, 104]⟩] 87)) := (Below.refl _ w).alloc (Nat.le_refl _) _
  cases plain with
  | true =>
    have hst : LfAt (w.alloc (.cells #[.string ⟨#[46, 111, 117, 116]⟩, .string ⟨#[46, 97]⟩, .string ⟨#[46, 111]⟩, .string ⟨#[46, 99]⟩, .string ⟨#[46, 104]⟩] 87)) w.heap.size (.slice none 0 0) [] := .inr ⟨_, rfl, Strs.nil _⟩
    clear h0
    go_enter Tryd.func31, Tryd.ntmps31
    go_wp2
    generalize w.alloc (.cells #[.string ⟨#[46, 111, 117, 116]⟩, .string ⟨#[46, 97]⟩, .string ⟨#[46, 111]⟩, .string ⟨#[46, 99]⟩, .string ⟨#[46, 104]⟩] 87) = w0 at hst hB0 ⊢
    go_loopw [14, 6] (fun i v wr => i = .int .i64 0 ∧ v = (.slice none 0 0) ∧ wr = w0) (fun _ _ _ => 0)
    case atStart => exact ⟨rfl, rfl, rfl⟩
    case round =>
      obtain ⟨rfl, rfl, rfl⟩ := hrel
      have HS := hide' hst
      have HB := hide' hB0
      clear hst hB0
      go_wp2
      go_ret
      exact ⟨_, rfl, HS.out, HB.out⟩
  | false =>
    have hst : LfAt (w.alloc (.cells #[.string ⟨#[46, 111, 117, 116]⟩, .string ⟨#[46, 97]⟩, .string ⟨#[46, 111]⟩, .string ⟨#[46, 99]⟩, .string ⟨#[46, 104]⟩] 87)) w.heap.size (.slice (some ⟨w.heap.size, 0, none⟩) 5 5) known := h0
    clear h0
    go_enter Tryd.func31, Tryd.ntmps31
    go_wp2
    generalize w.alloc (.cells #[.string ⟨#[46, 111, 117, 116]⟩, .string ⟨#[46, 97]⟩, .string ⟨#[46, 111]⟩, .string ⟨#[46, 99]⟩, .string ⟨#[46, 104]⟩] 87) = w0 at hst hB0 ⊢
    go_loopw [14, 6] (fun i v wr => i = .int .i64 0 ∧ v = (.slice (some ⟨w.heap.size, 0, none⟩) 5 5) ∧ wr = w0) (fun _ _ _ => 0)
    case atStart => exact ⟨rfl, rfl, rfl⟩
    case round =>
      obtain ⟨rfl, rfl, rfl⟩ := hrel
      have HS := hide' hst
      have HB := hide' hB0
      clear hst hB0
      go_wp2
      go_ret
      exact ⟨_, rfl, HS.out, HB.out⟩
theorem suffixes_any (plain : Bool) (L : List Rx) (v : Value) (w : World) (hl : L.length ≤ 100000) (hps : psum (L.map (·.r)) ≤ 100000000) (hn : ∀ x ∈ L, x.r.ts.length ≤ 100000) (h : Rls w v L) :
    Calls Tryd.prog 31 #[v, .bool plain] w fun e w' => ∃ v', e = .returned v' ∧ LfAt w' w.heap.size v' (sufP plain (L.map (·.r))) ∧ Below w.heap.size w w' := by
  rcases h.1 with ⟨a, c, rfl, rfl⟩ | ⟨b, off, cap, rfl, h3, h4⟩
  · exact suffixes_nil plain a c w
  · exact suffixes_some plain L b off cap w hl hps h3 h.2 hn h4
end Go.Proofs.YtkmedgdpcifnoaaDoor
