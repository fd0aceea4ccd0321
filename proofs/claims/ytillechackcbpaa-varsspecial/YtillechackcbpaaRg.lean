/- Rows of variables: what an append, a cut, a copy and a store do to them. -/
import Derived.Test.YtillechackcbpaaRq
import Derived.Laws.CopyRow
namespace Go.Proofs.Ytillechackcbpaa
open Go.RowKit Go.Maps

theorem flat_append (a b : List Vr) : flatV (a ++ b) = flatV a ++ flatV b := by unfold flatV; rw [List.flatMap_append]
theorem flat_take : ∀ (ns : List Vr) (k : Nat), flatV (ns.take k) = (flatV ns).take (k * 5)
  | [], k => by simp [flatV]
  | n :: r, 0 => by simp [flatV]
  | n :: r, k + 1 => by
    have e1 : flatV (n :: r) = cellsV n ++ flatV r := rfl
    have e2 : flatV ((n :: r).take (k + 1)) = cellsV n ++ flatV (r.take k) := rfl
    have e3 : (k + 1) * 5 - (cellsV n).length = k * 5 := by show (k + 1) * 5 - 5 = _; omega
    rw [e1, e2, flat_take r k, List.take_append, List.take_of_length_le (l := cellsV n) (by show 5 ≤ _; omega), e3]
/-- variables that can be read -/
def VSrc (w : World) (x : Value) (ys : List Vr) : Prop :=
  (∃ a c, x = .slice a 0 c ∧ ys = []) ∨ ∃ a c, x = .slice (some a) ys.length c ∧ ∀ j u, (flatV ys)[j]? = some u → w.cell? (a.add j) = some u
theorem flat_one (ns : List Vr) : ∀ u ∈ flatV ns, u.oneCell' = true := by
  intro u hu
  unfold flatV at hu
  obtain ⟨n, hn, hu⟩ := List.mem_flatMap.1 hu
  simp only [cellsV, List.mem_cons, List.not_mem_nil, or_false] at hu
  rcases hu with rfl | rfl | rfl | rfl | rfl <;> rfl
theorem VOwn.nil (w : World) : VOwn w (.slice none 0 0) [] := .inl ⟨rfl, rfl⟩
theorem VOwn.src {w : World} {v : Value} {ns : List Vr} (h : VOwn w v ns) : VSrc w v ns := by
  rcases h with ⟨rfl, rfl⟩ | ⟨g, cap, cur, rfl, hg, h1, h2, h4⟩
  · exact .inl ⟨_, _, rfl, rfl⟩
  · refine .inr ⟨_, _, rfl, fun j u hj => ?_⟩
    have hjl : j < ns.length * 5 := by
      have := (List.getElem?_eq_some_iff.1 hj).1
      rwa [flat_len] at this
    rw [← h4, List.getElem?_take_of_lt hjl] at hj
    rw [add_zero, Lib.cell_of_heap hg]
    simpa using hj
theorem VSrc.src {w : World} {x : Value} {ys : List Vr} (h : VSrc w x ys) : Src Try.prog 5 28 x ys.length (flatV ys) w := by
  rcases h with ⟨a, c, rfl, rfl⟩ | ⟨a, c, rfl, hc⟩
  · cases a with
    | none => exact Src.ofNil w Try.underlying28 c
    | some a => exact Src.ofSlice w Try.underlying28 a 0 c [] (by simp) (fun j u hj => by simp at hj) (fun u hu => by cases hu)
  · exact Src.ofSlice w Try.underlying28 a ys.length c (flatV ys) (flat_len ys) hc (flat_one ys)
theorem vown_new (w : World) (xs : List Vr) (z : Array Value) (cap : Nat) (hz : z.size = 5) (h1 : xs.length ≤ cap) :
    VOwn (w.drew.alloc (.cells ((flatV xs).toArray ++ Builtin.zeroCells z (cap - xs.length)) 36)) (.slice (some ⟨w.heap.size, 0, none⟩) xs.length cap) xs := by
  refine .inr ⟨w.heap.size, cap, _, rfl, heap_alloc_new w.drew _, h1, ?_, ?_⟩
  · simp only [Array.size_append, List.size_toArray, size_zeroCells, hz, flat_len]
    omega
  · rw [Array.toList_append, ← flat_len, List.take_left' (by simp)]
set_option maxHeartbeats 1000000 in
/-- append(v, x...), v's nodes in a row of their own -/
theorem append_own28 {v x : Value} {xs ys : List Vr} (ty : TypeId) (w : World) (hv : VOwn w v xs) (hx : VSrc w x ys) (hsz : xs.length + ys.length ≤ 1000000) :
    ∃ v' w', (Builtin.append_ #[28, 28] ty #[v, x]).run Try.prog w = .ok v' w' ∧ VOwn w' v' (xs ++ ys) ∧ w.grownBy w' v.ownBlock ∧ (v'.ownBlock = v.ownBlock ∨ v'.ownBlock = some w.heap.size) := by
  obtain ⟨i, hi, hz0, hz1, hz2⟩ := info_parts info36
  have hsr := hx.src
  have hxl := flat_len xs
  have hyl := flat_len ys
  have hml : xs.length + ys.length ≤ maxLen := by unfold maxLen; omega
  have e3 : flatV (xs ++ ys) = flatV xs ++ flatV ys := flat_append xs ys
  have hlen : (xs ++ ys).length = xs.length + ys.length := List.length_append
  rcases hv with ⟨rfl, rfl⟩ | ⟨g, cap, cur, rfl, hg, h1, h2, h4⟩
  · by_cases hy : ys = []
    · subst hy
      refine ⟨.slice none 0 0, w, ?_, .inl ⟨rfl, rfl⟩, ⟨rfl, rfl, rfl, Nat.le_refl _, fun _ _ _ => rfl⟩, .inl rfl⟩
      rcases hx with ⟨a, c, rfl, _⟩ | ⟨a, c, rfl, _⟩
      · cases a <;> simp [Builtin.append_, run_underlying Try.underlying28, sizeOf, typeInfo, hi, Builtin.lenOf, Builtin.firstCells, loadCells, loadCellsFrom]
      · simp [Builtin.append_, run_underlying Try.underlying28, sizeOf, typeInfo, hi, Builtin.lenOf, Builtin.firstCells, loadCells, loadCellsFrom]
    · have hpos : 0 < ys.length := List.length_pos_iff.2 hy
      have hr := run_append_grow_src w 28 28 ty 36 i _ Try.underlying28 hi hz0 none 0 0 [] (run_firstCells_none w.drew i.size 0 0 0) x ys.length (flatV ys) (by rw [hz1]; exact hsr) (by omega) (by omega)
        (by rw [hz2]; exact growslice_fits (by omega) (by omega))
      simp only [List.nil_append, Nat.zero_add] at hr
      refine ⟨_, _, hr, ?_, ⟨rfl, rfl, rfl, by simp, fun k hk _ => Lib.alloc_old w.drew _ k hk⟩, .inr rfl⟩
      exact vown_new w ys _ _ rfl (grownCap_ge _ _ _ _)
  · by_cases hroom : xs.length + ys.length ≤ cap
    · rcases hx with ⟨a, c, rfl, rfl⟩ | ⟨a, c, rfl, hc⟩
      · refine ⟨_, _, run_append_room_src w 28 28 ty 36 i Try.underlying28 hi g 0 xs.length cap _ 0 [] (by rw [hz1]; exact hsr) (by simpa using hroom) (by simp) (by simp), ?_, ⟨rfl, rfl, rfl, Nat.le_refl _, fun _ _ _ => rfl⟩, .inl rfl⟩
        rw [List.append_nil]
        exact .inr ⟨g, cap, cur, rfl, hg, h1, h2, h4⟩
      · have hr := run_append_room (P := Try.prog) w 28 ty 36 i Try.underlying28 hi g xs.length cap cur hg a ys.length c (flatV ys) (by rw [hyl, hz1]) hc (flat_one ys) hroom (by rw [hyl, hz1]; omega)
        rw [hz1, h4] at hr
        have hcs : (flatV xs ++ flatV ys ++ cur.toList.drop (xs.length * 5 + (flatV ys).length)).toArray.size = cur.size := by
          simp only [List.size_toArray, List.length_append, hxl, hyl, List.length_drop, Array.length_toList]
          omega
        refine ⟨_, _, hr, ?_, ⟨rfl, rfl, rfl, by simp, fun k _ hk => setRow_other w g k _ (fun e => hk (by simp [Value.ownBlock, e]))⟩, .inl rfl⟩
        refine .inr ⟨g, cap, _, by rw [hlen], setRow_heap w g cur _ 36 _ hg, by omega, by rw [hcs]; exact h2, ?_⟩
        rw [e3, List.take_left' (by rw [List.length_append, hxl, hyl, hlen]; omega)]
    · have hold : (Builtin.firstCells i.size xs.length (.slice (some ⟨g, 0, none⟩) xs.length cap)).run Try.prog w.drew = .ok (flatV xs).toArray w.drew := by
        refine run_firstCells_some w.drew i.size xs.length ⟨g, 0, none⟩ xs.length cap (flatV xs) (by rw [hxl, hz1]) fun j u hj => ?_
        have hD : VOwn w (.slice (some ⟨g, 0, none⟩) xs.length cap) xs := .inr ⟨g, cap, cur, rfl, hg, h1, h2, h4⟩
        rcases hD.src with ⟨a', c', e, e2⟩ | ⟨a', cap', e, hcc⟩
        · rw [e2] at hj
          simp [flatV] at hj
        · cases e
          simpa using hcc j u hj
      have hr := run_append_grow_src w 28 28 ty 36 i _ Try.underlying28 hi hz0 (some ⟨g, 0, none⟩) xs.length cap (flatV xs) hold x ys.length (flatV ys) (by rw [hz1]; exact hsr) (by omega) (by omega)
        (by rw [hz2]; exact growslice_fits (by omega) (by omega))
      refine ⟨_, _, hr, ?_, ⟨rfl, rfl, rfl, by simp, fun k hk _ => Lib.alloc_old w.drew _ k hk⟩, .inr rfl⟩
      have := vown_new w (xs ++ ys) (Value.agg #[.string ⟨#[]⟩, .string ⟨#[]⟩, .int .i64 0, .int .i64 0, .int .i64 0]).cells (grownCap w (xs.length + ys.length) cap 36) rfl (by rw [hlen]; exact grownCap_ge _ _ _ _)
      rw [hlen, e3] at this
      exact this
/-- at the operation -/
theorem wp_append28 {v x : Value} {xs ys : List Vr} (w : World) {o : Oper} {a : Act} {K : Act → World → Prop} {Q : Exit → Act → World → Prop} (s y : Operand)
    (ho : o.op = .call { callee := .builtin .append, args := #[s, y], argTypes := #[28, 28] }) (hs : a.eval s = v) (hy : a.eval y = x)
    (hv : VOwn w v xs) (hx : VSrc w x ys) (hsz : xs.length + ys.length ≤ 1000000)
    (h : ∀ v' w', VOwn w' v' (xs ++ ys) → w.grownBy w' v.ownBlock → (v'.ownBlock = v.ownBlock ∨ v'.ownBlock = some w.heap.size) → K (a.put o.dst v') w') :
    o.wp Try.prog a w K Q := by
  obtain ⟨v', w', hr, h2, h4, h5⟩ := append_own28 o.type w hv hx hsz
  unfold Oper.wp execOp
  simp only [ho, resolve, invoke, builtin, Sem.run_bind, Sem.run_pure, Result.andThen_ok, List.map_toArray, List.map_cons, List.map_nil, hs, hy, hr]
  exact h v' w' h2 h4 h5

/-- s.L[k:] -/
theorem slice_from {w : World} {v : Value} {ns : List Vr} (h : VOwn w v ns) {k : Nat} (hk : k ≤ ns.length) :
    ∃ x, (∀ W : World, (Instr.slice 28 v (some (.int .i64 k)) none none).run Try.prog W = .ok x W) ∧ VSrc w x (ns.drop k) ∧ ∃ a m c, x = .slice a m c := by
  obtain ⟨i, hi, hz0, hz1, hz2⟩ := info_parts info36
  rcases h with ⟨rfl, rfl⟩ | ⟨g, cap, cur, rfl, hg, h1, h2, h4⟩
  · obtain rfl : k = 0 := by simpa using hk
    exact ⟨.slice none 0 0, fun W => by simp [Instr.slice, Instr.sliceBounds, Instr.sliceBound, asIntOf, run_underlying Try.underlying28, sizeOf, typeInfo, hi], .inl ⟨_, _, rfl, rfl⟩, _, _, _, rfl⟩
  · refine ⟨.slice (some (if cap = k then ⟨g, 0, none⟩ else ⟨g, k * 5, none⟩)) (ns.length - k) (cap - k), fun W => ?_, ?_, _, _, _, rfl⟩
    · by_cases hck : cap = k
      · simp [Instr.slice, Instr.sliceBounds, Instr.sliceBound, run_underlying Try.underlying28, asIntOf, sizeOf, typeInfo, hi, hck, hk]
      · simp [Instr.slice, Instr.sliceBounds, Instr.sliceBound, run_underlying Try.underlying28, asIntOf, sizeOf, typeInfo, hi, hz1, hck, hk, Addr.add_lit]
    · by_cases hd : ns.drop k = []
      · rw [hd]
        have : ns.length - k = 0 := by have := congrArg List.length hd; simpa using this
        rw [this]
        exact .inl ⟨_, _, rfl, rfl⟩
      · have hlt : k < ns.length := by
          rcases Nat.lt_or_ge k ns.length with h | h
          · exact h
          · exact absurd (List.drop_eq_nil_of_le h) hd
        rw [if_neg (by omega)]
        refine .inr ⟨⟨g, k * 5, none⟩, cap - k, by rw [List.length_drop], fun j u hj => ?_⟩
        have e1 : flatV ns = flatV (ns.take k) ++ flatV (ns.drop k) := by rw [← flat_append, List.take_append_drop]
        have hfk : (flatV (ns.take k)).length = k * 5 := by rw [flat_len, List.length_take]; omega
        have hj2 : (flatV ns)[k * 5 + j]? = some u := by rw [e1, List.getElem?_append_right (by omega), hfk, Nat.add_sub_cancel_left]; exact hj
        have hjl : k * 5 + j < ns.length * 5 := by have := (List.getElem?_eq_some_iff.1 hj2).1; rwa [flat_len] at this
        rw [← h4, List.getElem?_take_of_lt hjl] at hj2
        rw [Addr.add_lit, Lib.cell_of_heap hg]
        simpa using hj2
/-- s.L[:k] -/
theorem slice_to {w : World} {v : Value} {ns : List Vr} (h : VOwn w v ns) {k : Nat} (hk : k ≤ ns.length) :
    ∃ y, (∀ W : World, (Instr.slice 28 v none (some (.int .i64 k)) none).run Try.prog W = .ok y W) ∧ VOwn w y (ns.take k) ∧ y.ownBlock = v.ownBlock ∧ ∃ a m c, y = .slice a m c := by
  obtain ⟨i, hi, hz0, hz1, hz2⟩ := info_parts info36
  rcases h with ⟨rfl, rfl⟩ | ⟨g, cap, cur, rfl, hg, h1, h2, h4⟩
  · obtain rfl : k = 0 := by simpa using hk
    exact ⟨.slice none 0 0, fun W => by simp [Instr.slice, Instr.sliceBounds, Instr.sliceBound, asIntOf, run_underlying Try.underlying28, sizeOf, typeInfo, hi], .inl ⟨rfl, rfl⟩, rfl, _, _, _, rfl⟩
  · refine ⟨.slice (some ⟨g, 0, none⟩) k cap, fun W => ?_, .inr ⟨g, cap, cur, by rw [List.length_take, Nat.min_eq_left hk], hg, by rw [List.length_take]; omega, h2, ?_⟩, rfl, _, _, _, rfl⟩
    · have c1 : k ≤ cap := by omega
      simp [Instr.slice, Instr.sliceBounds, Instr.sliceBound, run_underlying Try.underlying28, asIntOf, sizeOf, typeInfo, hi, c1, Addr.add_lit]
    · rw [List.length_take, Nat.min_eq_left hk, flat_take, ← h4, List.take_take, Nat.min_eq_left (by omega)]
theorem flat_set : ∀ (vs : List Vr) (k r : Nat) (x x' : Vr) (u : Value), vs[k]? = some x → r < 5 → cellsV x' = (cellsV x).set r u → flatV (vs.set k x') = (flatV vs).set (k * 5 + r) u
  | [], k, r, x, x', u, h, _, _ => by simp at h
  | y :: s, 0, r, x, x', u, h, hr, hx => by
    obtain rfl : y = x := by simpa using h
    have e1 : flatV (y :: s) = cellsV y ++ flatV s := rfl
    have e2 : flatV ((y :: s).set 0 x') = cellsV x' ++ flatV s := rfl
    rw [e1, e2, hx, Nat.zero_mul, Nat.zero_add, List.set_append_left _ _ (by show r < 5; exact hr)]
  | y :: s, k + 1, r, x, x', u, h, hr, hx => by
    have e1 : flatV (y :: s) = cellsV y ++ flatV s := rfl
    have e2 : flatV ((y :: s).set (k + 1) x') = cellsV y ++ flatV (s.set k x') := rfl
    have e3 : (k + 1) * 5 + r - (cellsV y).length = k * 5 + r := by show (k + 1) * 5 + r - 5 = _; omega
    rw [e1, e2, flat_set s k r x x' u (by simpa using h) hr hx, List.set_append_right _ _ (by show 5 ≤ _; omega), e3]
/-- a cell of a variable in a row is stored -/
theorem VOwn.set {w : World} {g n cap : Nat} {vs : List Vr} (h : VOwn w (.slice (some ⟨g, 0, none⟩) n cap) vs) {k : Nat} {x : Vr} (hk : vs[k]? = some x) (r : Nat) (hr : r < 5) (u : Value) (x' : Vr) (hx : cellsV x' = (cellsV x).set r u) :
    VOwn (w.setCell ⟨g, k * 5 + r, none⟩ u) (.slice (some ⟨g, 0, none⟩) n cap) (vs.set k x') := by
  rcases h with ⟨e, _⟩ | ⟨g', cap', cur, e, hg, r1, r2, r3⟩
  · cases e
  · cases e
    have hkl : k < vs.length := (List.getElem?_eq_some_iff.1 hk).1
    refine .inr ⟨g, cap, _, by rw [List.length_set], set_row hg (k * 5 + r) u, by rw [List.length_set]; exact r1, by rw [Array.size_setIfInBounds]; exact r2, ?_⟩
    rw [List.length_set, Array.toList_setIfInBounds, flat_set vs k r x x' u hk hr hx, ← r3, List.take_set]
/-- copy, of elements of five cells -/
theorem run_copy5 (w : World) (ty : TypeId) (g o dLen dCap : Nat) (a : Addr) (sLen sCap : Nat) (cur : Array Value) (cs : List Value)
    (hg : w.heap[g]? = some (.cells cur 36 (0, 0))) (hn : cs.length = Nat.min sLen dLen * 5)
    (hsrc : ∀ j v, cs[j]? = some v → w.cell? (a.add j) = some v) (hfit : o + cs.length ≤ cur.size) (h1 : ∀ v ∈ cs, v.oneCell' = true) :
    (Builtin.copy_ #[28, 28] ty #[.slice (some ⟨g, o, none⟩) dLen dCap, .slice (some a) sLen sCap]).run Try.prog w =
      .ok (goInt (Nat.min sLen dLen)) (w.setRow g (cur.toList.take o ++ cs ++ cur.toList.drop (o + cs.length)).toArray) := by
  obtain ⟨i, hi, hz0, hz1, hz2⟩ := info_parts info36
  have hl := run_loadCells_list (P := Try.prog) w a cs hsrc
  have hst := run_storeCells_at Try.prog g o 36 cs 0 cur w hg (by simpa using hfit) h1
  simp [Builtin.copy_, run_underlying Try.underlying28, Builtin.lenOf, Builtin.firstCells, sizeOf, typeInfo, hi, hz1, ← hn, hl, hst]
theorem run_copy0 (w : World) (ty : TypeId) (d : Option Addr) (dCap : Nat) (a : Option Addr) (sLen sCap : Nat) :
    (Builtin.copy_ #[28, 28] ty #[.slice d 0 dCap, .slice a sLen sCap]).run Try.prog w = .ok (goInt 0) w := by
  obtain ⟨i, hi, hz0, hz1, hz2⟩ := info_parts info36
  cases a <;> cases d <;> simp [Builtin.copy_, run_underlying Try.underlying28, Builtin.lenOf, Builtin.firstCells, sizeOf, typeInfo, hi, loadCells, loadCellsFrom, storeCells]
theorem run_cut (g cap n j : Nat) (hj : j ≤ n) (_hn : n ≤ cap) (W : World) : (Instr.slice 28 (.slice (some ⟨g, 0, none⟩) n cap) (some (.int .i64 j)) none none).run Try.prog W = .ok (.slice (some (if cap = j then ⟨g, 0, none⟩ else ⟨g, j * 5, none⟩)) (n - j) (cap - j)) W := by
  obtain ⟨i, hi, hz0, hz1, hz2⟩ := info_parts info36
  by_cases hck : cap = j
  · simp [Instr.slice, Instr.sliceBounds, Instr.sliceBound, run_underlying Try.underlying28, asIntOf, sizeOf, typeInfo, hi, hck, hj]
  · simp [Instr.slice, Instr.sliceBounds, Instr.sliceBound, run_underlying Try.underlying28, asIntOf, sizeOf, typeInfo, hi, hz1, hck, hj, Addr.add_lit]
/-- copy(s.L[k+1:], s.L[k:]) -/
theorem copy_shift {w : World} {v : Value} {vs : List Vr} {z : Vr} (h : VOwn w v (vs ++ [z])) {k : Nat} (hk : k ≤ vs.length) (ty : TypeId) :
    ∃ xa xm xc ya ym yc, (∀ W : World, (Instr.slice 28 v (some (.int .i64 ((k : Int) + 1))) none none).run Try.prog W = .ok (.slice xa xm xc) W) ∧ (∀ W : World, (Instr.slice 28 v (some (.int .i64 k)) none none).run Try.prog W = .ok (.slice ya ym yc) W) ∧
      ∃ c w' u, (Builtin.copy_ #[28, 28] ty #[.slice xa xm xc, .slice ya ym yc]).run Try.prog w = .ok c w' ∧ VOwn w' v (vs.take k ++ u :: vs.drop k) ∧ w.grownBy w' v.ownBlock := by
  have hlen : (vs ++ [z]).length = vs.length + 1 := by simp
  rcases h with ⟨_, e⟩ | ⟨g, cap, cur, rfl, hg, h1, h2, h4⟩
  · simp at e
  rw [hlen] at h1 h4 ⊢
  have e0 : (k : Int) + 1 = ((k + 1 : Nat) : Int) := by simp
  have s1 := run_cut g cap (vs.length + 1) (k + 1) (by omega) h1
  have s2 := run_cut g cap (vs.length + 1) k (by omega) h1
  rw [e0]
  rw [if_neg (by omega : ¬ cap = k)] at s2
  refine ⟨_, _, _, _, _, _, s1, s2, ?_⟩
  have hlen2 : ∀ u, (vs.take k ++ u :: vs.drop k).length = vs.length + 1 := fun u => by simp; omega
  by_cases hkn : k = vs.length
  · refine ⟨goInt 0, w, z, ?_, .inr ⟨g, cap, cur, by rw [hlen2], hg, by rw [hlen2]; exact h1, h2, ?_⟩, ⟨rfl, rfl, rfl, Nat.le_refl _, fun _ _ _ => rfl⟩⟩
    · have : vs.length + 1 - (k + 1) = 0 := by omega
      rw [this]
      exact run_copy0 w ty _ _ _ _ _
    · rw [hlen2, h4, hkn, List.take_length, List.drop_length]
  · have hkl : k < vs.length := by omega
    obtain ⟨u, hu⟩ : ∃ u, vs[k]? = some u := ⟨_, List.getElem?_eq_getElem hkl⟩
    rw [if_neg (by omega : ¬ cap = k + 1)]
    have hcl : (flatV (vs.drop k)).length = (vs.length - k) * 5 := by rw [flat_len, List.length_drop]
    have hmin : Nat.min (vs.length + 1 - k) (vs.length + 1 - (k + 1)) = vs.length - k := by show min _ _ = _; omega
    have hfl : flatV (vs ++ [z]) = flatV (vs.take k) ++ (flatV (vs.drop k) ++ flatV [z]) := by rw [← flat_append, ← flat_append, ← List.append_assoc, List.take_append_drop]
    have hfk : (flatV (vs.take k)).length = k * 5 := by rw [flat_len, List.length_take]; omega
    have hr := run_copy5 w ty g ((k + 1) * 5) (vs.length + 1 - (k + 1)) (cap - (k + 1)) ⟨g, k * 5, none⟩ (vs.length + 1 - k) (cap - k) cur (flatV (vs.drop k)) hg (by rw [hcl, hmin]) (fun j x hj => by
      have hjl : j < (vs.length - k) * 5 := by have := (List.getElem?_eq_some_iff.1 hj).1; rwa [hcl] at this
      have hj2 : (flatV (vs ++ [z]))[k * 5 + j]? = some x := by rw [hfl, List.getElem?_append_right (by omega), hfk, Nat.add_sub_cancel_left, List.getElem?_append_left (by omega)]; exact hj
      rw [← h4, List.getElem?_take_of_lt (by omega)] at hj2
      rw [Addr.add_lit, Lib.cell_of_heap hg]
      simpa using hj2) (by rw [hcl]; omega) (flat_one _)
    refine ⟨_, _, u, hr, .inr ⟨g, cap, _, by rw [hlen2], setRow_heap w g cur _ 36 _ hg, by rw [hlen2]; exact h1, ?_, ?_⟩, ⟨rfl, rfl, rfl, by simp, fun j _ hj => setRow_other w g j _ (fun e => hj (by simp [Value.ownBlock, e]))⟩⟩
    · simp only [List.size_toArray, List.length_append, List.length_take, List.length_drop, Array.length_toList, hcl]
      omega
    · have e1 : cur.toList.take ((k + 1) * 5) = flatV (vs.take k ++ [u]) := by
        have h5 : (cur.toList.take ((vs.length + 1) * 5)).take ((k + 1) * 5) = cur.toList.take ((k + 1) * 5) := by rw [List.take_take, Nat.min_eq_left (by omega)]
        have h6 : (vs ++ [z]).take (k + 1) = vs.take k ++ [u] := by
          rw [List.take_append_of_le_length (by omega), List.take_add_one, hu]
          rfl
        rw [← h5, h4, ← flat_take, h6]
      have hlA : (flatV (vs.take k ++ [u])).length = (k + 1) * 5 := by rw [flat_len]; simp; omega
      rw [hlen2, List.toList_toArray, e1, List.take_left' (by rw [List.length_append, hlA, hcl]; omega), ← flat_append]
      simp
end Go.Proofs.Ytillechackcbpaa
