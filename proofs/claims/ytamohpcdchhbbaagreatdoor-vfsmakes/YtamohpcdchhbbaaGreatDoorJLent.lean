/- The contract of anvillaw5.Lent: the nodes in rows of their own, with one more place behind each. The contract of anvillaw5.Spoil: it writes over rows of the call's own, and nothing else. The contract of anvillaw5.Stays at a lent tree that is as it was. -/
import Derived.Test.YtamohpcdchhbbaaGreatDoorTreeAny
import Derived.Test.YtamohpcdchhbbaaGreatDoorOwn
import Derived.Test.YtamohpcdchhbbaaGreatDoorSame
namespace Go.Proofs.YtamohpcdchhbbaaGreatDoor
open Go.RowKit Go.Maps

section
variable {P : Program} {md : Region.Mode} {ops : Array Oper} {Q : Exit → Act → World → Prop} {C : World → Prop} {X : List Nat}
/-- two operations are ready -/
theorem wpAnyX_two {i j : Nat} {fuel : Nat} {listed : Array Bool} {a : Act} {w : World} (hr : Region.ready md ops listed = [i, j]) (h1 : wpOp P ops Q i (fun a' w' => (X.contains i = false → C w') ∧ wpAnyX P md ops C X Q fuel (listed.setIfInBounds i true) a' w') a w)
    (h2 : wpOp P ops Q j (fun a' w' => (X.contains j = false → C w') ∧ wpAnyX P md ops C X Q fuel (listed.setIfInBounds j true) a' w') a w) : wpAnyX P md ops C X Q (fuel + 1) listed a w :=
  ⟨fun h0 => absurd (hr ▸ h0) (by simp), fun k hk => by
    rw [hr, List.mem_cons, List.mem_singleton] at hk
    rcases hk with rfl | rfl
    · exact h1
    · exact h2⟩
end
/-- append(v, x...) at an operation of a drawn region -/
theorem wp_append_dat {v x : Value} {xs ys : Bs} (w : World) {o : Oper} {a : Act} {K : Act → World → Prop} {Q : Exit → Act → World → Prop} (s y : Operand)
    (ho : o.op = .call { callee := .builtin .append, args := #[s, y], argTypes := #[43, 43] }) (hs : a.eval s = v) (hy : a.eval y = x)
    (hv : Dat w v xs) (hx : Rds w x ys) (hsz : xs.length + ys.length ≤ 1099511627776)
    (h : ∀ v' w', Dat w' v' (xs ++ ys) → Dat w' v xs → w.grownBy w' v.ownBlock → (v'.ownBlock = v.ownBlock ∨ v'.ownBlock = some w.heap.size) → K (a.put o.dst v') w') :
    o.wp Tryz.prog a w K Q := by
  obtain ⟨v', w', hr, h2, h3, h4, h5⟩ := append_dat o.type w hv hx hsz
  unfold Oper.wp execOp
  simp only [ho, resolve, invoke, builtin, Sem.run_bind, Sem.run_pure, Result.andThen_ok, List.map_toArray, List.map_cons, List.map_nil, hs, hy, hr]
  exact h v' w' h2 h3 h4 h5
structure LnC (b : Nat) (dv : Value) (w : World) : Prop where
  c3 : w.cell? ⟨b, 3, none⟩ = some dv
theorem one_rds (w : World) : Rds (w.alloc (.cells #[.int .u8 167] 5)) (.slice (some ⟨w.heap.size, 0, none⟩) 1 1) [167] := by
  refine .inr ⟨⟨w.heap.size, 0, none⟩, 1, rfl, fun _ => lt_of_block (alloc_new _ _), fun j u hj => ?_⟩
  rw [add_zero]
  rcases j with _ | j
  · cases hj; rw [Lib.cell_of_heap (alloc_new _ _)]; rfl
  · simp [Lib.byteCells] at hj
/-- bytes with one more behind -/
def LDat (w : World) (b0 : Nat) (m : Nv) : Prop := ∃ g cap, m.dv = .slice (some ⟨g, 0, none⟩) m.nd.data.length cap ∧ b0 ≤ g ∧ Dat w (.slice (some ⟨g, 0, none⟩) (m.nd.data.length + 1) cap) (m.nd.data ++ [167])
def spare : Nv := ⟨[], .slice none 0 0, ⟨false, -71, []⟩⟩
/-- a lent row of nodes -/
structure LtAt (w : World) (b0 : Nat) (v : Value) (ms : List Nv) : Prop where
  row : ∃ g cap cur, v = .slice (some ⟨g, 0, none⟩) ms.length cap ∧ b0 ≤ g ∧ w.heap[g]? = some (.cells cur 55 (0, 0)) ∧ ms.length + 1 ≤ cap ∧ cap * 4 ≤ cur.size ∧ cap ≤ maxLen ∧ cur.toList.take ((ms.length + 1) * 4) = flat (ms ++ [spare])
  dat : ∀ m ∈ ms, LDat w b0 m
theorem LDat.kept {w w' : World} {b0 : Nat} {m : Nv} (h : LDat w b0 m) (hk : ∀ g, b0 ≤ g → (∃ cur, w.heap[g]? = some (.cells cur 5 (0, 0))) → w'.heap[g]? = w.heap[g]?) : LDat w' b0 m := by
  obtain ⟨g, cap, h1, h2, h3⟩ := h
  exact ⟨g, cap, h1, h2, h3.kept fun g' hg' => hk g' (by cases hg'; exact h2) (h3.elem g' hg')⟩
theorem LDat.grown {w w' : World} {b0 n : Nat} {m : Nv} {va : Value} {xs : List Value} (h : LDat w b0 m) {base : Nat} (ho : w.ownsRow base 55 4 va n xs) (hg : w.grownBy w' va.ownBlock) : LDat w' b0 m := by
  refine h.kept fun g _ hc => ?_
  obtain ⟨cur, hc⟩ := hc
  refine hg.block g (lt_of_block hc) fun e => ?_
  rcases ho.2 with ⟨rfl, _⟩ | ⟨g', cap, cur', rfl, _, hr, _⟩
  · cases e
  · have e1 : g = g' := Option.some.inj e
    rw [e1, hr] at hc
    simp at hc
theorem own_lt {w : World} {base n : Nat} {va : Value} {xs : List Value} (ho : w.ownsRow base 55 4 va n xs) {b : Nat} (hb : b < base) : some b ≠ va.ownBlock := by
  intro e1
  rcases ho.2 with ⟨rfl, _⟩ | ⟨g, cap, cur, rfl, hg, _⟩
  · cases e1
  · have := Option.some.inj e1
    simp only at this
    omega
theorem flat_snoc (ms : List Nv) (m : Nv) : flat (ms ++ [m]) = flat ms ++ cellsN m := by unfold flat; rw [List.flatMap_append]; simp
theorem res9 (tmps : Array Value) (b : Nat) (x y z : Value) (W : World) (h4 : tmps.getD 2 undef = .pointer (some ⟨b, 0, none⟩)) (hb : W.heap[b]? = some (.cells #[x, y, z] 24 (0, 0))) : (results Tryz.f9 tmps).run Tryz.prog W = .ok (.agg #[x, y, z]) W := by
  simp only [Array.getD_eq_getD_getElem?] at h4
  have c0 : W.cell? ⟨b, 0, none⟩ = some x := by rw [Lib.cell_of_heap hb]; rfl
  have c1 : W.cell? ⟨b, 1, none⟩ = some y := by rw [Lib.cell_of_heap hb]; rfl
  have c2 : W.cell? ⟨b, 2, none⟩ = some z := by rw [Lib.cell_of_heap hb]; rfl
  simp [results, Tryz.results9, go_sem, h4, c0, c1, c2]
set_option maxRecDepth 100000 in
set_option maxHeartbeats 8000000 in
theorem lent_any' (sa : Option Addr) (cap : Nat) (ns : List Nv) (clk rm : Int) (w : World) (hsa : ns ≠ [] → ∃ g o, sa = some ⟨g, o, none⟩ ∧ NRow w g o ns) (hr : ∀ n ∈ ns, Rds w n.dv n.nd.data) (hl : ns.length ≤ 1100) (hds : ∀ n ∈ ns, n.nd.data.length ≤ 300000) :
    Calls Tryz.prog 9 #[.agg #[.slice sa ns.length cap, .int .i64 clk, .int .i64 rm]] w fun r w' => (∃ v ms, r = .returned (.agg #[v, .int .i64 clk, .int .i64 rm]) ∧ LtAt w' w.heap.size v ms ∧ ms.map toE = ns.map toE) ∧ Below w.heap.size w w' := by
  have hbe : Below w.heap.size w ((w.alloc (.cells #[.slice sa ns.length cap, .int .i64 clk, .int .i64 rm] 24)).alloc (.cells #[.slice none 0 0, .int .i64 0, .int .i64 0] 24)) := ((Below.refl _ _).alloc (Nat.le_refl _) _).alloc (by simp) _
  have z1 := (Below.heap_alloc (w.alloc (.cells #[.slice sa ns.length cap, .int .i64 clk, .int .i64 rm] 24)) (.cells #[.slice none 0 0, .int .i64 0, .int .i64 0] 24) w.heap.size (by simp)).trans (alloc_new w _)
  have z2 := alloc_new (w.alloc (.cells #[.slice sa ns.length cap, .int .i64 clk, .int .i64 rm] 24)) (.cells #[.slice none 0 0, .int .i64 0, .int .i64 0] 24)
  rw [size_alloc'] at z2
  go_enter Tryz.func9, Tryz.ntmps9
  go_wp2
  obtain ⟨W1, hW1⟩ : ∃ W1, W1 = (w.alloc (.cells #[.slice sa ns.length cap, .int .i64 clk, .int .i64 rm] 24)).alloc (.cells #[.slice none 0 0, .int .i64 0, .int .i64 0] 24) := ⟨_, rfl⟩
  have hs1 : W1.heap.size = w.heap.size + 2 := by rw [hW1]; simp
  rw [← hW1] at hbe z1 z2 ⊢
  clear hW1
  go_loopw [3, 4, 5] (fun l i _ wr => ∃ (k : Nat) (ms : List Nv), k ≤ ns.length ∧ i = .int .i64 k ∧ wr.ownsRow W1.heap.size 55 4 l ms.length (flat ms) ∧ (∀ m ∈ ms, LDat wr W1.heap.size m) ∧ ms.length = k ∧ ms.map toE = (ns.take k).map toE ∧ Below W1.heap.size W1 wr) (fun _ i _ _ => ns.length - (intOf i).toNat)
  case atStart => exact ⟨0, [], Nat.zero_le _, rfl, World.ownsRow_nil _ _ _ _, fun n hn => (by cases hn), rfl, rfl, Below.refl _ _⟩
  case round =>
    obtain ⟨k, ms, hk, rfl, hown, hdat, hmk, hme, hBe⟩ := hrel
    have y1 := (hBe.block _ (by omega)).trans z1
    have y2 := (hBe.block _ (by omega)).trans z2
    have a0 : wr.cell? ⟨w.heap.size, 0, none⟩ = some (.slice sa ns.length cap) := by rw [Lib.cell_of_heap y1]; rfl
    have hBw : Below w.heap.size w wr := hbe.trans (hBe.mono (by omega))
    by_cases hkl : k < ns.length
    · have k1 : (k : Int) < ns.length := by omega
      obtain ⟨n, hn⟩ : ∃ n, ns[k]? = some n := ⟨_, List.getElem?_eq_getElem hkl⟩
      have hmem := List.mem_of_getElem? hn
      obtain ⟨g, o, hse, h⟩ := hsa (fun e => by rw [e] at hkl; simp at hkl)
      subst hse
      have hR := h.below hBw
      have d0 := hR.c0 k n hn
      have d1 := hR.c1 k n hn
      have d2 := hR.c2 k n hn
      have d3 := hR.c3 k n hn
      have hrd := (hr n hmem).below hBw
      obtain ⟨da, dc, hdv⟩ := hrd.len
      rw [hdv] at d3 hrd
      have hdl : n.nd.data.length ≤ 300000 := hds n hmem
      go_upto_region 6 with fail
      refine wp_region_classX [10] (C := LnC wr.heap.size (.slice da n.nd.data.length dc)) (by kernel_rfl) ?_
      obtain ⟨w7, hw7⟩ : ∃ w7, w7 = (wr.alloc (.cells #[.string (mk n.path), .bool n.nd.dir, .int .i64 n.nd.time, .slice da n.nd.data.length dc] 55)).drew := ⟨_, rfl⟩
      have z7 : w7.heap[wr.heap.size]? = some (.cells #[.string (mk n.path), .bool n.nd.dir, .int .i64 n.nd.time, .slice da n.nd.data.length dc] 55 (0, 0)) := by rw [hw7]; exact alloc_new _ _
      have hB7 : Below wr.heap.size wr w7 := by rw [hw7]; exact ((Below.refl _ _).alloc (Nat.le_refl _) _).drew
      have hlt7 : wr.heap.size < w7.heap.size := lt_of_block z7
      have hC7 : LnC wr.heap.size (.slice da n.nd.data.length dc) w7 := ⟨by rw [Lib.cell_of_heap z7]; rfl⟩
      have hrd7 := hrd.below hB7
      rw [← hw7]
      clear hw7
      (refine wpAnyX_take (i := 0) (v := ?_) hC7 rfl (by kernel_rfl) (by kernel_rfl) (by kernel_rfl) (by kernel_rfl) (fun _ _ _ h => h) (Or.inl ⟨by kernel_rfl, ?_⟩) ?_; rotate_left; (intro w hc; have k3 := hc.c3; clear hc; go_simp; try with_reducible rfl))
      (refine wpAnyX_take (i := 1) (v := ?_) hC7 rfl (by kernel_rfl) (by kernel_rfl) (by kernel_rfl) (by kernel_rfl) (fun _ _ _ h => h) (Or.inl ⟨by kernel_rfl, ?_⟩) ?_; rotate_left; (intro w hc; have k3 := hc.c3; clear hc; go_simp; try with_reducible rfl))
      (refine wpAnyX_take (i := 5) (v := ?_) hC7 rfl (by kernel_rfl) (by kernel_rfl) (by kernel_rfl) (by kernel_rfl) (fun _ _ _ h => h) (Or.inl ⟨by kernel_rfl, ?_⟩) ?_; rotate_left; (intro w hc; have k3 := hc.c3; clear hc; go_simp; try with_reducible rfl))
      (refine wpAnyX_take (i := 6) (v := ?_) hC7 rfl (by kernel_rfl) (by kernel_rfl) (by kernel_rfl) (by kernel_rfl) (fun _ _ _ h => h) (Or.inl ⟨by kernel_rfl, ?_⟩) ?_; rotate_left; (intro w hc; have k3 := hc.c3; clear hc; go_simp; try with_reducible rfl))
      (refine wpAnyX_take (i := 7) (v := ?_) hC7 rfl (by kernel_rfl) (by kernel_rfl) (by kernel_rfl) (by kernel_rfl) (fun _ _ _ h => h) (Or.inl ⟨by kernel_rfl, ?_⟩) ?_; rotate_left; (intro w hc; have k3 := hc.c3; clear hc; go_simp; try with_reducible rfl))
      refine wpAnyX_two (i := 2) (j := 3) (by kernel_rfl) ?_ ?_
      · refine wpOp_wanted rfl (by rfl) ?_
        refine wp_append_dat (v := .slice none 0 0) _ _ _ rfl rfl rfl (Dat.nil _) hrd7 (by simp; omega) ?_
        intro v2 w8 hd2 _ hg2 ho2
        have hd2 : Dat w8 v2 n.nd.data := hd2
        have hb8 : Below w7.heap.size w7 w8 := ⟨hg2.os, hg2.tape, hg2.output, hg2.size, fun b hb => hg2.block b hb (by simp [Value.ownBlock])⟩
        have hlo2 : ∀ g, v2.ownBlock = some g → w7.heap.size ≤ g := fun g hg => by
          rcases ho2 with e | e
          · rw [hg] at e; cases e
          · rw [hg] at e; have := Option.some.inj e; omega
        have z8 := (hb8.block _ hlt7).trans z7
        have hC8 : LnC wr.heap.size (.slice da n.nd.data.length dc) w8 := ⟨by rw [Lib.cell_of_heap z8]; rfl⟩
        refine ⟨fun _ => hC8, ?_⟩
        have hb9 : Below w8.heap.size w8 (w8.alloc (.cells #[.int .u8 167] 5)) := (Below.refl _ _).alloc (Nat.le_refl _) _
        have hC9 : LnC wr.heap.size (.slice da n.nd.data.length dc) (w8.alloc (.cells #[.int .u8 167] 5)) := ⟨(hb9.cell (p := ⟨_, 3, none⟩) (lt_of_block z8)).trans hC8.c3⟩
        have hrd9 := one_rds w8
        refine wpAnyX_one (i := 3) (by kernel_rfl) (wpOp_wanted rfl (by rfl) ?_)
        go_simp
        refine wpAnyX_one (i := 4) (by kernel_rfl) (wpOp_wanted rfl (by rfl) ?_)
        refine wp_append_dat (v := v2) _ _ _ rfl rfl rfl (hd2.kept fun g hg => hb9.block g (hd2.lt g hg)) hrd9 (by simp; omega) ?_
        intro v4 w10 hd4 _ hg4 ho4
        have z9 := (hb9.block _ (lt_of_block z8)).trans z8
        have hB9 : Below wr.heap.size wr (w8.alloc (.cells #[.int .u8 167] 5)) := hB7.trans ((hb8.mono hB7.size).trans (hb9.mono (Nat.le_trans hB7.size hb8.size)))
        have hs7 := hB7.size
        have hn4 : ∀ b, b < wr.heap.size → some b ≠ v2.ownBlock := fun b hb e => by have := hlo2 b e.symm; omega
        have hnb4 : some wr.heap.size ≠ v2.ownBlock := fun e => by have := hlo2 _ e.symm; omega
        have hlo4 : ∀ g, v2.ownBlock = some g → W1.heap.size ≤ g := fun g hg => by have h1 := hlo2 g hg; have h2 := hBe.size; omega
        have hlen : (n.nd.data ++ [167]).length = n.nd.data.length + 1 := by simp
        obtain ⟨g4, c4, cur4, hv4, hcur4, hl4, hs4, hm4, ht4⟩ : ∃ g cap cur, v4 = .slice (some ⟨g, 0, none⟩) (n.nd.data.length + 1) cap ∧ w10.heap[g]? = some (.cells cur 5 (0, 0)) ∧ n.nd.data.length + 1 ≤ cap ∧ cap ≤ cur.size ∧ cap ≤ maxLen ∧ cur.toList.take (n.nd.data.length + 1) = Lib.byteCells (n.nd.data ++ [167]) := by
          rcases hd4 with ⟨_, e⟩ | ⟨g, cap, cur, e1, e2, e3, e4, e5, e6⟩
          · simp at e
          · rw [hlen] at e1 e3 e6
            exact ⟨g, cap, cur, e1, e2, e3, e4, e5, e6⟩
        subst hv4
        have hB10 : Below wr.heap.size wr w10 := hB9.trans ⟨hg4.os, hg4.tape, hg4.output, hg4.size, fun b hb => hg4.block b (Nat.lt_of_lt_of_le hb hB9.size) (hn4 b hb)⟩
        have z10 : w10.heap[wr.heap.size]? = some (.cells #[.string (mk n.path), .bool n.nd.dir, .int .i64 n.nd.time, .slice da n.nd.data.length dc] 55 (0, 0)) := (hg4.block _ (lt_of_block z9) hnb4).trans z9
        have hC10 : LnC wr.heap.size (.slice da n.nd.data.length dc) w10 := ⟨by rw [Lib.cell_of_heap z10]; rfl⟩
        have hg4n : W1.heap.size ≤ g4 := by
          rcases ho4 with e | e
          · exact hlo4 g4 e.symm
          · have := Option.some.inj e
            have h1 := hB9.size
            have h2 := hBe.size
            simp only at this
            omega
        refine ⟨fun _ => hC10, ?_⟩
        have hfz := Lib.frozen_of_heap z10 3
        have hc3 := hC10.c3
        have hle : (n.nd.data.length : Int) ≤ c4 := by omega
        have HK := hide' (And.intro hd4 (And.intro hB10 (And.intro z10 (And.intro hcur4 (And.intro hl4 (And.intro hs4 (And.intro hm4 ht4)))))))
        clear hd4 hB10 hcur4 hl4 hs4 ht4 hg4 ho4 hn4 hnb4 hlo4 hB9 z9 z10
        refine wpAnyX_one (i := 8) (by kernel_rfl) (wpOp_wanted rfl (by rfl) ?_)
        go_simp
        refine wpAnyX_one (i := 9) (by kernel_rfl) (wpOp_wanted rfl (by rfl) ?_)
        go_simp
        refine wpAnyX_one (i := 10) (by kernel_rfl) (wpOp_wanted rfl (by rfl) ?_)
        go_simp
        refine wpAnyX_done (by kernel_rfl) ?_ _
        obtain ⟨hd4, hB10, z10, hcur4, hl4, hs4, _, ht4⟩ := HK.out
        obtain ⟨w8, hw8⟩ : ∃ w8, w8 = w10.setCell ⟨wr.heap.size, 3, none⟩ (.slice (some ⟨g4, 0, none⟩) n.nd.data.length c4) := ⟨_, rfl⟩
        have z8 : w8.heap[wr.heap.size]? = some (.cells #[.string (mk n.path), .bool n.nd.dir, .int .i64 n.nd.time, .slice (some ⟨g4, 0, none⟩) n.nd.data.length c4] 55 (0, 0)) := by rw [hw8]; exact set_row z10 3 _
        have hk8 : ∀ b, b ≠ wr.heap.size → w8.heap[b]? = w10.heap[b]? := fun b hb => by rw [hw8]; exact Below.heap_setCell w10 ⟨wr.heap.size, 3, none⟩ _ b (by simpa using hb)
        have hB8 : Below wr.heap.size wr w8 := by rw [hw8]; exact hB10.setCell (p := ⟨wr.heap.size, 3, none⟩) (Nat.le_refl _) _
        have hd8 : Dat w8 (.slice (some ⟨g4, 0, none⟩) (n.nd.data.length + 1) c4) (n.nd.data ++ [167]) := hd4.kept fun g hg => hk8 g (by
          obtain ⟨cur, hc⟩ := hd4.elem g hg
          intro e
          rw [e, z10] at hc
          simp at hc)
        have e0 : w8.cell? ⟨wr.heap.size, 0, none⟩ = some (.string (mk n.path)) := by rw [Lib.cell_of_heap z8]; rfl
        have e1 : w8.cell? ⟨wr.heap.size, 1, none⟩ = some (.bool n.nd.dir) := by rw [Lib.cell_of_heap z8]; rfl
        have e2 : w8.cell? ⟨wr.heap.size, 2, none⟩ = some (.int .i64 n.nd.time) := by rw [Lib.cell_of_heap z8]; rfl
        have e3 : w8.cell? ⟨wr.heap.size, 3, none⟩ = some (.slice (some ⟨g4, 0, none⟩) n.nd.data.length c4) := by rw [Lib.cell_of_heap z8]; rfl
        rw [← hw8]
        have hb9 : Below w8.heap.size w8 (w8.alloc (.cells #[.string (mk n.path), .bool n.nd.dir, .int .i64 n.nd.time, .slice (some ⟨g4, 0, none⟩) n.nd.data.length c4] 55)) := (Below.refl _ _).alloc (Nat.le_refl _) _
        have hB9 : Below wr.heap.size wr (w8.alloc (.cells #[.string (mk n.path), .bool n.nd.dir, .int .i64 n.nd.time, .slice (some ⟨g4, 0, none⟩) n.nd.data.length c4] 55)) := hB8.trans (hb9.mono hB8.size)
        have hown9 : (w8.alloc (.cells #[.string (mk n.path), .bool n.nd.dir, .int .i64 n.nd.time, .slice (some ⟨g4, 0, none⟩) n.nd.data.length c4] 55)).ownsRow W1.heap.size 55 4 u3 ms.length (flat ms) := own_kept hown hB9
        have hsr := hBe.size
        have hs8 := hB8.size
        have hwz : W1.heap.size ≤ (w8.alloc (.cells #[.string (mk n.path), .bool n.nd.dir, .int .i64 n.nd.time, .slice (some ⟨g4, 0, none⟩) n.nd.data.length c4] 55)).heap.size := by simp; omega
        have HK := hide' (And.intro hd8 (And.intro hB8 (And.intro hB9 (And.intro hown9 (And.intro hdat (And.intro hme (And.intro hn (And.intro hBe (And.intro hown hb9)))))))))
        clear hd8 hB8 hB9 hdat hme hn hBe hown hb9 hw8 hk8 z8 z10 hd4 hB10 y1 y2 z1 z2 hbe hBw h hsa hr hds hR d0 d1 d2 d3 hrd hmem a0
        obtain ⟨inf, hi, hz0, hz1, hz2⟩ := info_parts info55
        go_wp2_with (at_builtin; refine wpList_append_lies _ rfl _ _ 22 rfl W1.heap.size 55 inf _ 4 56 Tryz.underlying22 hi hz0 hz1 hz2 rfl (by decide) u3 ms.length (flat ms) rfl hown9 ⟨w8.heap.size, 0, none⟩ 1 1 (cellsN ⟨n.path, .slice (some ⟨g4, 0, none⟩) n.nd.data.length c4, n.nd⟩) rfl rfl (news_cells w8 _) (news_one _ _ _ _) (by decide) (by unfold maxLen; omega) (by omega) hwz _ rfl ?_)
        intro g9 c9 w9 hown10 hgr hat hlt
        obtain ⟨hd8, hB8, hB9, _, hdat, hme, hn, hBe, hown, hb9⟩ := HK.out
        clear hi hz0 hz1 hz2 hown9
        go_wp2
        have hl9 : ∀ m, LDat (w8.alloc (.cells #[.string (mk n.path), .bool n.nd.dir, .int .i64 n.nd.time, .slice (some ⟨g4, 0, none⟩) n.nd.data.length c4] 55)) W1.heap.size m → LDat w9 W1.heap.size m := fun m hm => hm.grown (own_kept hown hB9) hgr
        refine ⟨⟨k + 1, ms ++ [⟨n.path, .slice (some ⟨g4, 0, none⟩) n.nd.data.length c4, n.nd⟩], by omega, by simp, ?_, fun m hm => ?_, by simp [hmk], ?_, ?_⟩, by simp [intOf]; omega⟩
        · rw [flat_snoc, List.length_append, hmk]
          first | exact hown10 | (rw [hs1]; exact hown10)
        · rcases List.mem_append.1 hm with hm | hm
          · exact hl9 m ((hdat m hm).kept fun g _ hc => hB9.block g (by obtain ⟨cur, hc⟩ := hc; exact lt_of_block hc))
          · rw [List.mem_singleton.1 hm]
            exact hl9 _ ⟨g4, c4, rfl, hg4n, hd8.kept fun g hg => hb9.block g (hd8.lt g hg)⟩
        · rw [List.map_append, hme, List.take_add_one, hn, List.map_append]
          rfl
        · exact hBe.trans ⟨hgr.os.trans hB9.os, hgr.tape.trans hB9.tape, hgr.output.trans hB9.output, Nat.le_trans hB9.size hgr.size, fun b hb => (hgr.block b (by omega) (own_lt hown hb)).trans (hB9.block b (by omega))⟩
      · refine wpOp_wanted rfl (by rfl) ?_
        have hb8 : Below w7.heap.size w7 (w7.alloc (.cells #[.int .u8 167] 5)) := (Below.refl _ _).alloc (Nat.le_refl _) _
        have z8 := (hb8.block _ hlt7).trans z7
        have hC8 : LnC wr.heap.size (.slice da n.nd.data.length dc) (w7.alloc (.cells #[.int .u8 167] 5)) := ⟨by rw [Lib.cell_of_heap z8]; rfl⟩
        have hrd9 := one_rds w7
        have hrd8 := hrd7.below hb8
        go_simp
        refine wpAnyX_one (i := 2) (by kernel_rfl) (wpOp_wanted rfl (by rfl) ?_)
        refine wp_append_dat (v := .slice none 0 0) _ _ _ rfl rfl rfl (Dat.nil _) hrd8 (by simp; omega) ?_
        intro v2 w9 hd2 _ hg2 ho2
        have hd2 : Dat w9 v2 n.nd.data := hd2
        have hb9 : Below (w7.alloc (.cells #[.int .u8 167] 5)).heap.size (w7.alloc (.cells #[.int .u8 167] 5)) w9 := ⟨hg2.os, hg2.tape, hg2.output, hg2.size, fun b hb => hg2.block b hb (by simp [Value.ownBlock])⟩
        have hlo2 : ∀ g, v2.ownBlock = some g → w7.heap.size + 1 ≤ g := fun g hg => by
          rcases ho2 with e | e
          · rw [hg] at e; cases e
          · rw [hg] at e; have := Option.some.inj e; simp at this; omega
        have z9 := (hb9.block _ (lt_of_block z8)).trans z8
        have hC9 : LnC wr.heap.size (.slice da n.nd.data.length dc) w9 := ⟨by rw [Lib.cell_of_heap z9]; rfl⟩
        refine ⟨fun _ => hC9, ?_⟩
        refine wpAnyX_one (i := 4) (by kernel_rfl) (wpOp_wanted rfl (by rfl) ?_)
        refine wp_append_dat (v := v2) _ _ _ rfl rfl rfl hd2 (hrd9.below hb9) (by simp; omega) ?_
        intro v4 w10 hd4 _ hg4 ho4
        have hB9 : Below wr.heap.size wr w9 := hB7.trans ((hb8.mono hB7.size).trans (hb9.mono (Nat.le_trans hB7.size hb8.size)))
        have hs7 := hB7.size
        have hn4 : ∀ b, b < wr.heap.size → some b ≠ v2.ownBlock := fun b hb e => by have := hlo2 b e.symm; omega
        have hnb4 : some wr.heap.size ≠ v2.ownBlock := fun e => by have := hlo2 _ e.symm; omega
        have hlo4 : ∀ g, v2.ownBlock = some g → W1.heap.size ≤ g := fun g hg => by have h1 := hlo2 g hg; have h2 := hBe.size; omega
        have hlen : (n.nd.data ++ [167]).length = n.nd.data.length + 1 := by simp
        obtain ⟨g4, c4, cur4, hv4, hcur4, hl4, hs4, hm4, ht4⟩ : ∃ g cap cur, v4 = .slice (some ⟨g, 0, none⟩) (n.nd.data.length + 1) cap ∧ w10.heap[g]? = some (.cells cur 5 (0, 0)) ∧ n.nd.data.length + 1 ≤ cap ∧ cap ≤ cur.size ∧ cap ≤ maxLen ∧ cur.toList.take (n.nd.data.length + 1) = Lib.byteCells (n.nd.data ++ [167]) := by
          rcases hd4 with ⟨_, e⟩ | ⟨g, cap, cur, e1, e2, e3, e4, e5, e6⟩
          · simp at e
          · rw [hlen] at e1 e3 e6
            exact ⟨g, cap, cur, e1, e2, e3, e4, e5, e6⟩
        subst hv4
        have hB10 : Below wr.heap.size wr w10 := hB9.trans ⟨hg4.os, hg4.tape, hg4.output, hg4.size, fun b hb => hg4.block b (Nat.lt_of_lt_of_le hb hB9.size) (hn4 b hb)⟩
        have z10 : w10.heap[wr.heap.size]? = some (.cells #[.string (mk n.path), .bool n.nd.dir, .int .i64 n.nd.time, .slice da n.nd.data.length dc] 55 (0, 0)) := (hg4.block _ (lt_of_block z9) hnb4).trans z9
        have hC10 : LnC wr.heap.size (.slice da n.nd.data.length dc) w10 := ⟨by rw [Lib.cell_of_heap z10]; rfl⟩
        have hg4n : W1.heap.size ≤ g4 := by
          rcases ho4 with e | e
          · exact hlo4 g4 e.symm
          · have := Option.some.inj e
            have h1 := hB9.size
            have h2 := hBe.size
            simp only at this
            omega
        refine ⟨fun _ => hC10, ?_⟩
        have hfz := Lib.frozen_of_heap z10 3
        have hc3 := hC10.c3
        have hle : (n.nd.data.length : Int) ≤ c4 := by omega
        have HK := hide' (And.intro hd4 (And.intro hB10 (And.intro z10 (And.intro hcur4 (And.intro hl4 (And.intro hs4 (And.intro hm4 ht4)))))))
        clear hd4 hB10 hcur4 hl4 hs4 ht4 hg4 ho4 hn4 hnb4 hlo4 hB9 z9 z10
        refine wpAnyX_one (i := 8) (by kernel_rfl) (wpOp_wanted rfl (by rfl) ?_)
        go_simp
        refine wpAnyX_one (i := 9) (by kernel_rfl) (wpOp_wanted rfl (by rfl) ?_)
        go_simp
        refine wpAnyX_one (i := 10) (by kernel_rfl) (wpOp_wanted rfl (by rfl) ?_)
        go_simp
        refine wpAnyX_done (by kernel_rfl) ?_ _
        obtain ⟨hd4, hB10, z10, hcur4, hl4, hs4, _, ht4⟩ := HK.out
        obtain ⟨w8, hw8⟩ : ∃ w8, w8 = w10.setCell ⟨wr.heap.size, 3, none⟩ (.slice (some ⟨g4, 0, none⟩) n.nd.data.length c4) := ⟨_, rfl⟩
        have z8 : w8.heap[wr.heap.size]? = some (.cells #[.string (mk n.path), .bool n.nd.dir, .int .i64 n.nd.time, .slice (some ⟨g4, 0, none⟩) n.nd.data.length c4] 55 (0, 0)) := by rw [hw8]; exact set_row z10 3 _
        have hk8 : ∀ b, b ≠ wr.heap.size → w8.heap[b]? = w10.heap[b]? := fun b hb => by rw [hw8]; exact Below.heap_setCell w10 ⟨wr.heap.size, 3, none⟩ _ b (by simpa using hb)
        have hB8 : Below wr.heap.size wr w8 := by rw [hw8]; exact hB10.setCell (p := ⟨wr.heap.size, 3, none⟩) (Nat.le_refl _) _
        have hd8 : Dat w8 (.slice (some ⟨g4, 0, none⟩) (n.nd.data.length + 1) c4) (n.nd.data ++ [167]) := hd4.kept fun g hg => hk8 g (by
          obtain ⟨cur, hc⟩ := hd4.elem g hg
          intro e
          rw [e, z10] at hc
          simp at hc)
        have e0 : w8.cell? ⟨wr.heap.size, 0, none⟩ = some (.string (mk n.path)) := by rw [Lib.cell_of_heap z8]; rfl
        have e1 : w8.cell? ⟨wr.heap.size, 1, none⟩ = some (.bool n.nd.dir) := by rw [Lib.cell_of_heap z8]; rfl
        have e2 : w8.cell? ⟨wr.heap.size, 2, none⟩ = some (.int .i64 n.nd.time) := by rw [Lib.cell_of_heap z8]; rfl
        have e3 : w8.cell? ⟨wr.heap.size, 3, none⟩ = some (.slice (some ⟨g4, 0, none⟩) n.nd.data.length c4) := by rw [Lib.cell_of_heap z8]; rfl
        rw [← hw8]
        have hb9 : Below w8.heap.size w8 (w8.alloc (.cells #[.string (mk n.path), .bool n.nd.dir, .int .i64 n.nd.time, .slice (some ⟨g4, 0, none⟩) n.nd.data.length c4] 55)) := (Below.refl _ _).alloc (Nat.le_refl _) _
        have hB9 : Below wr.heap.size wr (w8.alloc (.cells #[.string (mk n.path), .bool n.nd.dir, .int .i64 n.nd.time, .slice (some ⟨g4, 0, none⟩) n.nd.data.length c4] 55)) := hB8.trans (hb9.mono hB8.size)
        have hown9 : (w8.alloc (.cells #[.string (mk n.path), .bool n.nd.dir, .int .i64 n.nd.time, .slice (some ⟨g4, 0, none⟩) n.nd.data.length c4] 55)).ownsRow W1.heap.size 55 4 u3 ms.length (flat ms) := own_kept hown hB9
        have hsr := hBe.size
        have hs8 := hB8.size
        have hwz : W1.heap.size ≤ (w8.alloc (.cells #[.string (mk n.path), .bool n.nd.dir, .int .i64 n.nd.time, .slice (some ⟨g4, 0, none⟩) n.nd.data.length c4] 55)).heap.size := by simp; omega
        have HK := hide' (And.intro hd8 (And.intro hB8 (And.intro hB9 (And.intro hown9 (And.intro hdat (And.intro hme (And.intro hn (And.intro hBe (And.intro hown hb9)))))))))
        clear hd8 hB8 hB9 hdat hme hn hBe hown hb9 hw8 hk8 z8 z10 hd4 hB10 y1 y2 z1 z2 hbe hBw h hsa hr hds hR d0 d1 d2 d3 hrd hmem a0
        obtain ⟨inf, hi, hz0, hz1, hz2⟩ := info_parts info55
        go_wp2_with (at_builtin; refine wpList_append_lies _ rfl _ _ 22 rfl W1.heap.size 55 inf _ 4 56 Tryz.underlying22 hi hz0 hz1 hz2 rfl (by decide) u3 ms.length (flat ms) rfl hown9 ⟨w8.heap.size, 0, none⟩ 1 1 (cellsN ⟨n.path, .slice (some ⟨g4, 0, none⟩) n.nd.data.length c4, n.nd⟩) rfl rfl (news_cells w8 _) (news_one _ _ _ _) (by decide) (by unfold maxLen; omega) (by omega) hwz _ rfl ?_)
        intro g9 c9 w9 hown10 hgr hat hlt
        obtain ⟨hd8, hB8, hB9, _, hdat, hme, hn, hBe, hown, hb9⟩ := HK.out
        clear hi hz0 hz1 hz2 hown9
        go_wp2
        have hl9 : ∀ m, LDat (w8.alloc (.cells #[.string (mk n.path), .bool n.nd.dir, .int .i64 n.nd.time, .slice (some ⟨g4, 0, none⟩) n.nd.data.length c4] 55)) W1.heap.size m → LDat w9 W1.heap.size m := fun m hm => hm.grown (own_kept hown hB9) hgr
        refine ⟨⟨k + 1, ms ++ [⟨n.path, .slice (some ⟨g4, 0, none⟩) n.nd.data.length c4, n.nd⟩], by omega, by simp, ?_, fun m hm => ?_, by simp [hmk], ?_, ?_⟩, by simp [intOf]; omega⟩
        · rw [flat_snoc, List.length_append, hmk]
          first | exact hown10 | (rw [hs1]; exact hown10)
        · rcases List.mem_append.1 hm with hm | hm
          · exact hl9 m ((hdat m hm).kept fun g _ hc => hB9.block g (by obtain ⟨cur, hc⟩ := hc; exact lt_of_block hc))
          · rw [List.mem_singleton.1 hm]
            exact hl9 _ ⟨g4, c4, rfl, hg4n, hd8.kept fun g hg => hb9.block g (hd8.lt g hg)⟩
        · rw [List.map_append, hme, List.take_add_one, hn, List.map_append]
          rfl
        · exact hBe.trans ⟨hgr.os.trans hB9.os, hgr.tape.trans hB9.tape, hgr.output.trans hB9.output, Nat.le_trans hB9.size hgr.size, fun b hb => (hgr.block b (by omega) (own_lt hown hb)).trans (hB9.block b (by omega))⟩
    · obtain rfl : k = ns.length := by omega
      have k1 : ¬ (ns.length : Int) < ns.length := by omega
      rw [List.take_length] at hme
      have f0 := Lib.frozen_of_heap y1 0
      have s0 : wr.cell? ⟨w.heap.size + 1, 0, none⟩ = some (.slice none 0 0) := by rw [Lib.cell_of_heap y2]; rfl
      have s1 : wr.cell? ⟨w.heap.size + 1, 1, none⟩ = some (.int .i64 0) := by rw [Lib.cell_of_heap y2]; rfl
      have s2 : wr.cell? ⟨w.heap.size + 1, 2, none⟩ = some (.int .i64 0) := by rw [Lib.cell_of_heap y2]; rfl
      have hb9 : Below wr.heap.size wr (wr.alloc (.cells #[.string ⟨#[]⟩, .bool false, .int .i64 (-71), .slice none 0 0] 55)) := (Below.refl _ _).alloc (Nat.le_refl _) _
      have hown9 : (wr.alloc (.cells #[.string ⟨#[]⟩, .bool false, .int .i64 (-71), .slice none 0 0] 55)).ownsRow W1.heap.size 55 4 u3 ms.length (flat ms) := own_kept hown hb9
      have hsr := hBe.size
      have hwz : W1.heap.size ≤ (wr.alloc (.cells #[.string ⟨#[]⟩, .bool false, .int .i64 (-71), .slice none 0 0] 55)).heap.size := by simp; omega
      have hnews := news_cells wr spare
      obtain ⟨lv, hlv⟩ : ∃ a c, u3 = .slice a ms.length c := by
        rcases hown.2 with ⟨e, e2⟩ | ⟨g1, c1, cur1, e, _⟩
        · exact ⟨none, 0, by rw [e, e2]⟩
        · exact ⟨_, _, e⟩
      obtain ⟨lc, hlv⟩ := hlv
      have HK := hide' (And.intro hdat (And.intro hme (And.intro hBe (And.intro hown (And.intro hb9 (And.intro y1 (And.intro y2 hBw)))))))
      clear hdat hme hBe hown hb9 y1 y2 hBw z1 z2 hbe hsa hr hds
      obtain ⟨inf, hi, hz0, hz1, hz2⟩ := info_parts info55
      subst hlv
      go_wp2_with (at_builtin; refine wpList_append_lies _ rfl _ _ 22 rfl W1.heap.size 55 inf _ 4 56 Tryz.underlying22 hi hz0 hz1 hz2 rfl (by decide) (.slice lv ms.length lc) ms.length (flat ms) rfl hown9 ⟨wr.heap.size, 0, none⟩ 1 1 (cellsN spare) rfl rfl hnews (news_one _ _ _ _) (by decide) (by unfold maxLen; omega) (by omega) hwz _ rfl ?_)
      intro g9 c9 w9 hown10 hgr hat hlt
      obtain ⟨hdat, hme, hBe, hown, hb9, y1, y2, hBw⟩ := HK.out
      have hk9 : ∀ b, b < W1.heap.size → w9.heap[b]? = wr.heap[b]? := fun b hb => (hgr.block b (by simp; omega) (by rw [← hmk]; exact own_lt hown hb)).trans (hb9.block b (by omega))
      have x1 := (hk9 w.heap.size (by omega)).trans y1
      have x2 := (hk9 (w.heap.size + 1) (by omega)).trans y2
      obtain ⟨cur, hgc, hcc, hcm, hcs, hct, hgb⟩ : ∃ cur, w9.heap[g9]? = some (.cells cur 55 (0, 0)) ∧ ns.length + 1 ≤ c9 ∧ c9 ≤ maxLen ∧ cur.size = c9 * 4 ∧ cur.toList.take ((ns.length + 1) * 4) = flat ms ++ cellsN spare ∧ w.heap.size + 2 ≤ g9 := by
        rcases hown10.2 with ⟨e3, _⟩ | ⟨g, cap, cur, e3, hbg, hg, r1, r2, r3, r4⟩
        · cases e3
        · cases e3; exact ⟨cur, hg, r1, r2, r3, r4, hbg⟩
      have c0 : w9.cell? ⟨w.heap.size, 0, none⟩ = some (.slice sa ns.length cap) := by rw [Lib.cell_of_heap x1]; rfl
      have c1 : w9.cell? ⟨w.heap.size, 1, none⟩ = some (.int .i64 clk) := by rw [Lib.cell_of_heap x1]; rfl
      have c2 : w9.cell? ⟨w.heap.size, 2, none⟩ = some (.int .i64 rm) := by rw [Lib.cell_of_heap x1]; rfl
      have d0 : w9.cell? ⟨w.heap.size + 1, 0, none⟩ = some (.slice none 0 0) := by rw [Lib.cell_of_heap x2]; rfl
      have d1 : w9.cell? ⟨w.heap.size + 1, 1, none⟩ = some (.int .i64 0) := by rw [Lib.cell_of_heap x2]; rfl
      have d2 : w9.cell? ⟨w.heap.size + 1, 2, none⟩ = some (.int .i64 0) := by rw [Lib.cell_of_heap x2]; rfl
      have g0 := Lib.frozen_of_heap x1 0
      have g1 := Lib.frozen_of_heap x2 0
      have g2 := Lib.frozen_of_heap x2 1
      have g3 := Lib.frozen_of_heap x2 2
      have hcle : (ns.length : Int) ≤ c9 := by omega
      have HJ := hide' (And.intro hdat (And.intro hme (And.intro hBe (And.intro hown (And.intro hb9 (And.intro hBw (And.intro hgr (And.intro x1 (And.intro x2 (And.intro hk9 (And.intro hgc (And.intro hcs hct))))))))))))
      clear hdat hme hBe hown hb9 y1 y2 hBw hgr x1 x2 hk9 hgc hct HK hown10 hown9 hnews hwz hi hz0 hz1 hz2 hat s0 s1 s2 f0 a0
      go_wp2
      obtain ⟨hdat, hme, hBe, hown, hb9, hBw, hgr, x1, x2, hk9, hgc, hcs, hct⟩ := HJ.out
      have x3 := (Below.heap_setCell w9 ⟨w.heap.size, 0, none⟩ (.slice (some ⟨g9, 0, none⟩) ns.length c9) (w.heap.size + 1) (by simp)).trans x2
      refine bodyPost_ret (res9 _ _ _ _ _ _ rfl (set_row (set_row (set_row x3 0 _) 1 _) 2 _)) rfl ?_
      obtain ⟨wz, hwz⟩ : ∃ wz, wz = (((w9.setCell ⟨w.heap.size, 0, none⟩ (.slice (some ⟨g9, 0, none⟩) ns.length c9)).setCell ⟨w.heap.size + 1, 0, none⟩ (.slice (some ⟨g9, 0, none⟩) ns.length c9)).setCell ⟨w.heap.size + 1, 1, none⟩ (.int .i64 clk)).setCell ⟨w.heap.size + 1, 2, none⟩ (.int .i64 rm) := ⟨_, rfl⟩
      have hB9 : Below w.heap.size w w9 := hBw.trans ⟨hgr.os.trans hb9.os, hgr.tape.trans hb9.tape, hgr.output.trans hb9.output, Nat.le_trans hb9.size hgr.size, fun b hb => hk9 b (by omega)⟩
      have hBz : Below w.heap.size w wz := by
        rw [hwz]
        exact (((hB9.setCell (p := ⟨w.heap.size, 0, none⟩) (Nat.le_refl _) _).setCell (p := ⟨w.heap.size + 1, 0, none⟩) (Nat.le_succ _) _).setCell (p := ⟨w.heap.size + 1, 1, none⟩) (Nat.le_succ _) _).setCell (p := ⟨w.heap.size + 1, 2, none⟩) (Nat.le_succ _) _
      have hkz : ∀ b, w.heap.size + 2 ≤ b → wz.heap[b]? = w9.heap[b]? := fun b hb => by
        rw [hwz]
        exact (Below.heap_setCell _ ⟨w.heap.size + 1, 2, none⟩ _ b (by simp; omega)).trans ((Below.heap_setCell _ ⟨w.heap.size + 1, 1, none⟩ _ b (by simp; omega)).trans ((Below.heap_setCell _ ⟨w.heap.size + 1, 0, none⟩ _ b (by simp; omega)).trans (Below.heap_setCell _ ⟨w.heap.size, 0, none⟩ _ b (by simp; omega))))
      rw [← hwz]
      have hl9 : ∀ m ∈ ms, LDat wz w.heap.size m := fun m hm => by
        have h1 : LDat w9 W1.heap.size m := LDat.grown ((hdat m hm).kept fun g _ hc => hb9.block g (by obtain ⟨cur, hc⟩ := hc; exact lt_of_block hc)) (own_kept hown hb9) (by rw [hmk]; exact hgr)
        obtain ⟨gm, cm, e1, e2, e3⟩ := h1.kept (w' := wz) fun g hg _ => hkz g (by omega)
        exact ⟨gm, cm, e1, by omega, e3⟩
      refine ⟨⟨_, ms, rfl, ⟨⟨g9, c9, cur, by rw [hmk], by omega, (hkz g9 hgb).trans hgc, by omega, by omega, hcm, by rw [hmk, flat_snoc]; exact hct⟩, hl9⟩, hme⟩, hBz⟩
/-- Lent -/
theorem Lent_any (v : Value) (ns : List Nv) (clk rm : Int) (w : World) (h : Nodes w v ns) (hl : ns.length ≤ 1100) (hds : ∀ n ∈ ns, n.nd.data.length ≤ 300000) :
    Calls Tryz.prog 9 #[.agg #[v, .int .i64 clk, .int .i64 rm]] w fun r w' => (∃ v ms, r = .returned (.agg #[v, .int .i64 clk, .int .i64 rm]) ∧ LtAt w' w.heap.size v ms ∧ ms.map toE = ns.map toE) ∧ Below w.heap.size w w' := by
  rcases h with ⟨⟨a, c, rfl⟩, rfl⟩ | ⟨g, o, cap, rfl, h0, h1, h2⟩
  · exact lent_any' a c [] clk rm w (fun e => absurd rfl e) (fun n hn => (by cases hn)) hl hds
  · exact lent_any' _ cap ns clk rm w (fun _ => ⟨g, o, rfl, h1⟩) h2 hl hds
end Go.Proofs.YtamohpcdchhbbaaGreatDoor
namespace Go.Proofs.YtamohpcdchhbbaaGreatDoor
open Go.RowKit Go.Maps

/-- a slice of bytes in a row from S on, whatever bytes they are -/
def DatB (w : World) (S : Nat → Prop) (v : Value) : Prop :=
  v = .slice none 0 0 ∨ ∃ g n cap cur, v = .slice (some ⟨g, 0, none⟩) n cap ∧ S g ∧ w.heap[g]? = some (.cells cur 5 (0, 0)) ∧ n ≤ 1000000 ∧ ∀ j, j < n → ∃ x : UInt8, cur[j]? = some (.int .u8 (x.toNat : Nat))
theorem Dat.datB {w : World} {v : Value} {bs : Bs} {S : Nat → Prop} (h : Dat w v bs) (hg : ∀ g, v.ownBlock = some g → S g) (hl : bs.length ≤ 1000000) : DatB w S v := by
  rcases h with ⟨rfl, _⟩ | ⟨g, cap, cur, rfl, h1, h2, h3, h4, h5⟩
  · exact .inl rfl
  · refine .inr ⟨g, _, cap, cur, rfl, hg g rfl, h1, hl, fun j hj => ⟨bs[j], ?_⟩⟩
    have e : (Lib.byteCells bs)[j]? = some (.int .u8 (bs[j].toNat : Nat)) := by
      unfold Lib.byteCells
      rw [List.getElem?_map, List.getElem?_eq_getElem hj]
      rfl
    rw [← h5, List.getElem?_take_of_lt hj] at e
    simpa using e
theorem DatB.len {w : World} {S : Nat → Prop} {v : Value} (h : DatB w S v) : ∃ a n cap, v = .slice a n cap ∧ n ≤ 1000000 := by
  rcases h with rfl | ⟨g, n, cap, cur, rfl, _, _, h, _⟩
  · exact ⟨_, _, _, rfl, by omega⟩
  · exact ⟨_, _, _, rfl, h⟩
theorem DatB.kept {w w' : World} {S : Nat → Prop} {v : Value} (h : DatB w S v) (hk : ∀ (g : Nat) (cur : Array Value), w.heap[g]? = some (Obj.cells cur 5 (0, 0)) → w'.heap[g]? = w.heap[g]?) : DatB w' S v := by
  rcases h with h | ⟨g, n, cap, cur, rfl, h1, h2, r⟩
  · exact .inl h
  · exact .inr ⟨g, n, cap, cur, rfl, h1, (hk g cur h2).trans h2, r⟩
/-- a byte that is written into a row leaves rows of bytes -/
theorem DatB.set {w : World} {S : Nat → Prop} {v : Value} (h : DatB w S v) {g k : Nat} {x : UInt8} : DatB (w.setCell ⟨g, k, none⟩ (.int .u8 (x.toNat : Nat))) S v := by
  rcases h with h | ⟨g', n, cap, cur, rfl, h1, h2, h3, h4⟩
  · exact .inl h
  · by_cases e : g' = g
    · subst e
      refine .inr ⟨g', n, cap, _, rfl, h1, set_row h2 k _, h3, fun j hj => ?_⟩
      by_cases e2 : k = j
      · subst e2
        refine ⟨x, ?_⟩
        obtain ⟨y, hy⟩ := h4 k hj
        have : k < cur.size := (Array.getElem?_eq_some_iff.1 hy).1
        simp [this]
      · obtain ⟨y, hy⟩ := h4 j hj
        exact ⟨y, by rw [Array.getElem?_setIfInBounds_ne e2]; exact hy⟩
    · exact .inr ⟨g', n, cap, cur, rfl, h1, (Below.heap_setCell w ⟨g, k, none⟩ _ g' (by simpa using e)).trans h2, h3, h4⟩
/-- a row of nodes that may be written over -/
structure SpRow (w : World) (S : Nat → Prop) (g n i : Nat) : Prop where
  hi : S g
  row : ∃ cur, w.heap[g]? = some (.cells cur 55 (0, 0)) ∧ n * 4 ≤ cur.size
  cel : ∀ j, i ≤ j → j < n → ∃ dv, w.cell? ⟨g, j * 4 + 3, none⟩ = some dv ∧ DatB w S dv
theorem DatB.below {w w' : World} {S : Nat → Prop} {v : Value} (h : DatB w S v) (hb : Below w.heap.size w w') : DatB w' S v := h.kept fun _ _ hg => hb.block _ (lt_of_block hg)
theorem SpRow.below {w w' : World} {S : Nat → Prop} {g n i : Nat} (h : SpRow w S g n i) (hb : Below w.heap.size w w') : SpRow w' S g n i := by
  obtain ⟨h1, ⟨cur, h2, h3⟩, h4⟩ := h
  refine ⟨h1, ⟨cur, (hb.block _ (lt_of_block h2)).trans h2, h3⟩, fun j hj hn => ?_⟩
  obtain ⟨dv, c, d⟩ := h4 j hj hn
  exact ⟨dv, (hb.cell (p := ⟨g, j * 4 + 3, none⟩) (lt_of_block h2)).trans c, d.below hb⟩
theorem cell_at {w : World} {g k : Nat} {cur : Array Value} {T : TypeId} (h : w.heap[g]? = some (.cells cur T (0, 0))) (hk : k < cur.size) : w.cell? ⟨g, k, none⟩ = some cur[k] := by
  rw [Lib.cell_of_heap h]
  simp [hk]
theorem Turn.set {S : Nat → Prop} {w w' : World} (h : Turn S w w') {g : Nat} (hg : S g) (c : Nat) (v : Value) : Turn S w (w'.setCell ⟨g, c, none⟩ v) :=
  ⟨h.os, h.tape, h.output, Nat.le_trans h.size (Nat.le_of_eq (by simp)), fun k hk hn => (Below.heap_setCell w' ⟨g, c, none⟩ v k (fun e => hn (by simpa using e ▸ hg))).trans (h.block k hk hn)⟩
theorem SpRow.set5 {w : World} {S : Nat → Prop} {g n i g' c : Nat} {cur : Array Value} {x : UInt8} (h : SpRow w S g n i) (hg : w.heap[g']? = some (.cells cur 5 (0, 0))) : SpRow (w.setCell ⟨g', c, none⟩ (.int .u8 (x.toNat : Nat))) S g n i := by
  obtain ⟨h1, ⟨cur', h2, h3⟩, h4⟩ := h
  have hne : g ≠ g' := fun e => by rw [e, hg] at h2; simp at h2
  have hk : (w.setCell ⟨g', c, none⟩ (.int .u8 (x.toNat : Nat))).heap[g]? = w.heap[g]? := Below.heap_setCell w ⟨g', c, none⟩ _ g (by simpa using hne)
  refine ⟨h1, ⟨cur', hk.trans h2, h3⟩, fun j hj hn => ?_⟩
  obtain ⟨dv, e1, e2⟩ := h4 j hj hn
  exact ⟨dv, (World.cell?_of_block (a := ⟨g, j * 4 + 3, none⟩) hk).trans e1, e2.set⟩
theorem SpRow.set55 {w : World} {S : Nat → Prop} {g n i c : Nat} {v : Value} (h : SpRow w S g n i) (hc : c < i * 4) : SpRow (w.setCell ⟨g, c, none⟩ v) S g n i := by
  obtain ⟨h1, ⟨cur, h2, h3⟩, h4⟩ := h
  refine ⟨h1, ⟨_, set_row h2 c v, by simpa using h3⟩, fun j hj hn => ?_⟩
  obtain ⟨dv, e1, e2⟩ := h4 j hj hn
  refine ⟨dv, ?_, e2.kept fun g' cur' hg' => Below.heap_setCell w ⟨g, c, none⟩ v g' (fun e => by simp only at e; rw [e, h2] at hg'; simp at hg')⟩
  rw [Lib.cell_of_heap h2] at e1
  rw [Lib.cell_of_heap (set_row h2 c v), Array.getElem?_setIfInBounds_ne (by omega)]
  exact e1
theorem SpRow.mono {w : World} {S : Nat → Prop} {g n i j : Nat} (h : SpRow w S g n i) (hij : i ≤ j) : SpRow w S g n j := ⟨h.hi, h.row, fun k hk hn => h.cel k (Nat.le_trans hij hk) hn⟩
theorem xor_byte (x : UInt8) : ∃ y : UInt8, bits BinOp.xor IntKind.u8 (x.toNat : Int) 255 = (y.toNat : Nat) := by
  refine ⟨x ^^^ 255, ?_⟩
  have key : ∀ n : Fin 256, bits BinOp.xor IntKind.u8 (n.val : Int) 255 = ((n.val ^^^ 255 : Nat) : Int) := by set_option maxRecDepth 100000 in decide
  rw [UInt8.toNat_xor]
  exact key ⟨x.toNat, UInt8.toNat_lt x⟩
set_option maxRecDepth 100000 in
set_option maxHeartbeats 4000000 in
theorem spoil_row (S : Nat → Prop) (g n cap : Nat) (clk rm : Int) (w : World) (hn : n ≤ 1000000) (_hc : n ≤ cap) (h : SpRow w S g n 0) :
    Calls Tryz.prog 14 #[.agg #[.slice (some ⟨g, 0, none⟩) n cap, .int .i64 clk, .int .i64 rm]] w fun r w' => r = .returned (.tuple #[]) ∧ Turn S w w' := by
  go_enter Tryz.func14, Tryz.ntmps14
  go_wp2
  have z0 := heap_alloc_new w (.cells #[.slice (some ⟨g, 0, none⟩) n cap, .int .i64 clk, .int .i64 rm] 24)
  have hb0 : Below w.heap.size w (w.alloc (.cells #[.slice (some ⟨g, 0, none⟩) n cap, .int .i64 clk, .int .i64 rm] 24)) := (Below.refl _ _).alloc (Nat.le_refl _) _
  obtain ⟨w0, hw0⟩ : ∃ w0, w0 = w.alloc (.cells #[.slice (some ⟨g, 0, none⟩) n cap, .int .i64 clk, .int .i64 rm] 24) := ⟨_, rfl⟩
  rw [← hw0] at z0 hb0 ⊢
  have h0 : SpRow w0 S g n 0 := h.below hb0
  clear hw0
  go_loopw [2, 3, 4] (fun i _ _ wr => ∃ k : Nat, k ≤ n ∧ i = .int .i64 k ∧ SpRow wr S g n k ∧ wr.heap[w.heap.size]? = some (.cells #[.slice (some ⟨g, 0, none⟩) n cap, .int .i64 clk, .int .i64 rm] 24 (0, 0)) ∧ Turn S w wr) (fun i _ _ _ => n - (intOf i).toNat)
  case atStart => exact ⟨0, Nat.zero_le _, rfl, h0, z0, Turn.of_below hb0⟩
  case round =>
    obtain ⟨k, hk, rfl, hS, hB, hT⟩ := hrel
    have a0 : wr.cell? ⟨w.heap.size, 0, none⟩ = some (.slice (some ⟨g, 0, none⟩) n cap) := by rw [Lib.cell_of_heap hB]; rfl
    by_cases hkl : k < n
    · have k1 : (k : Int) < n := by omega
      obtain ⟨dv, hd3, hD⟩ := hS.cel k (Nat.le_refl _) hkl
      obtain ⟨da, dn, dc, hdv, hdn⟩ := hD.len
      rw [hdv] at hd3 hD
      obtain ⟨wo, rfl⟩ : ∃ wo, wo = wr := ⟨_, rfl⟩
      clear h h0 z0 hb0
      go_wp2
      go_loopw [4] (fun j wi => ∃ m : Nat, m ≤ dn ∧ j = .int .i64 m ∧ SpRow wi S g n k ∧ DatB wi S (.slice da dn dc) ∧ wi.heap[w.heap.size]? = some (.cells #[.slice (some ⟨g, 0, none⟩) n cap, .int .i64 clk, .int .i64 rm] 24 (0, 0)) ∧ Turn S w wi) (fun j _ => dn - (intOf j).toNat)
      case atStart => exact ⟨0, Nat.zero_le _, rfl, hS, hD, hB, hT⟩
      case round =>
        obtain ⟨m, hm, rfl, hSi, hDi, hBi, hTi⟩ := hrel
        by_cases hml : m < dn
        · have m1 : (m : Int) < dn := by omega
          rcases hDi with e | ⟨g', n', cap', cur, e, h1, h2, h3, h4⟩
          · cases e; omega
          · cases e
            obtain ⟨x, hx⟩ := h4 m hml
            have c1 : wr.cell? ⟨g', m, none⟩ = some (.int .u8 (x.toNat : Nat)) := by rw [Lib.cell_of_heap h2]; exact hx
            have f1 := Lib.frozen_of_heap h2 m
            go_wp2
            obtain ⟨y, hy⟩ := xor_byte x
            rw [hy]
            exact ⟨⟨m + 1, by omega, by simp, hSi.set5 h2, DatB.set (.inr ⟨g', dn, dc, cur, rfl, h1, h2, h3, h4⟩), (Below.heap_setCell wr ⟨g', m, none⟩ _ w.heap.size (fun e => by simp only at e; rw [e, h2] at hBi; simp at hBi)).trans hBi, hTi.set h1 _ _⟩, by simp [intOf]; omega⟩
        · obtain rfl : m = dn := by omega
          have m1 : ¬ (m : Int) < m := by omega
          obtain ⟨cur, hg, hgs⟩ := hSi.row
          have b0' : wr.cell? ⟨w.heap.size, 0, none⟩ = some (.slice (some ⟨g, 0, none⟩) n cap) := by rw [Lib.cell_of_heap hBi]; rfl
          have f0 := Lib.frozen_of_heap hg (k * 4)
          have f1 := Lib.frozen_of_heap hg (k * 4 + 1)
          have f2 := Lib.frozen_of_heap hg (k * 4 + 2)
          have f3 := Lib.frozen_of_heap hg (k * 4 + 3)
          have c0 := cell_at (k := k * 4) hg (by omega)
          have c1 := cell_at (k := k * 4 + 1) hg (by omega)
          have c2 := cell_at (k := k * 4 + 2) hg (by omega)
          have c3 := cell_at (k := k * 4 + 3) hg (by omega)
          go_wp2
          have hS1 := hSi.mono (Nat.le_succ k)
          have hne : w.heap.size ≠ g := fun e => by rw [e, hg] at hBi; simp at hBi
          have hkk : ∀ (W : World) c v, (W.setCell ⟨g, c, none⟩ v).heap[w.heap.size]? = W.heap[w.heap.size]? := fun W c v => Below.heap_setCell W ⟨g, c, none⟩ v _ (by simpa using hne)
          refine ⟨⟨k + 1, by omega, by simp, (((hS1.set55 (by omega)).set55 (by omega)).set55 (by omega)).set55 (by omega), ?_, (((hTi.set hSi.hi _ _).set hSi.hi _ _).set hSi.hi _ _).set hSi.hi _ _⟩, by simp [intOf]; omega⟩
          rw [hkk, hkk, hkk, hkk]
          exact hBi
    · obtain rfl : k = n := by omega
      have k1 : ¬ (k : Int) < k := by omega
      go_wp2
      go_end0
      exact ⟨rfl, hT⟩
set_option maxRecDepth 100000 in
set_option maxHeartbeats 4000000 in
theorem spoil_nil (S : Nat → Prop) (a : Option Addr) (cap : Nat) (clk rm : Int) (w : World) :
    Calls Tryz.prog 14 #[.agg #[.slice a 0 cap, .int .i64 clk, .int .i64 rm]] w fun r w' => r = .returned (.tuple #[]) ∧ Turn S w w' := by
  have hb0 : Below w.heap.size w (w.alloc (.cells #[.slice a 0 cap, .int .i64 clk, .int .i64 rm] 24)) := (Below.refl _ _).alloc (Nat.le_refl _) _
  go_enter Tryz.func14, Tryz.ntmps14
  go_wp2
  go_loopw [2, 3, 4] (fun i _ _ wr => i = .int .i64 0 ∧ wr = w.alloc (.cells #[.slice a 0 cap, .int .i64 clk, .int .i64 rm] 24)) (fun _ _ _ _ => 0)
  case atStart => exact ⟨rfl, rfl⟩
  case round =>
    obtain ⟨rfl, rfl⟩ := hrel
    go_wp2
    go_end0
    exact ⟨rfl, Turn.of_below hb0⟩
end Go.Proofs.YtamohpcdchhbbaaGreatDoor
namespace Go.Proofs.YtamohpcdchhbbaaGreatDoor
open Go.RowKit Go.Maps

theorem LDat.lt {w : World} {b0 : Nat} {m : Nv} (h : LDat w b0 m) : ∃ g cap cur, m.dv = .slice (some ⟨g, 0, none⟩) m.nd.data.length cap ∧ b0 ≤ g ∧ w.heap[g]? = some (.cells cur 5 (0, 0)) ∧ m.nd.data.length + 1 ≤ cap ∧ cap ≤ cur.size ∧ cap ≤ maxLen ∧ cur.toList.take (m.nd.data.length + 1) = Lib.byteCells (m.nd.data ++ [167]) := by
  obtain ⟨g, cap, h1, h2, h3⟩ := h
  rcases h3 with ⟨e, _⟩ | ⟨g', cap', cur, e, h4, h5, h6, h7, h8⟩
  · cases e
  · have hlen : (m.nd.data ++ [167]).length = m.nd.data.length + 1 := by simp
    rw [hlen] at e h5 h8
    cases e
    exact ⟨g, cap, cur, h1, h2, h4, h5, h6, h7, h8⟩
theorem ldat_cell {w : World} {m : Nv} {g : Nat} {cur : Array Value} (h4 : w.heap[g]? = some (.cells cur 5 (0, 0))) (h8 : cur.toList.take (m.nd.data.length + 1) = Lib.byteCells (m.nd.data ++ [167])) {j : Nat} {x : UInt8} (hj : (m.nd.data ++ [167])[j]? = some x) : w.cell? ⟨g, j, none⟩ = some (.int .u8 (x.toNat : Nat)) := by
  have hjl : j < m.nd.data.length + 1 := by
    have := (List.getElem?_eq_some_iff.1 hj).1
    simpa using this
  have e : (Lib.byteCells (m.nd.data ++ [167]))[j]? = some (.int .u8 (x.toNat : Nat)) := by
    unfold Lib.byteCells
    rw [List.getElem?_map, hj]
    rfl
  rw [← h8, List.getElem?_take_of_lt hjl] at e
  rw [Lib.cell_of_heap h4]
  simpa using e
theorem LDat.rds {w : World} {b0 : Nat} {m : Nv} (h : LDat w b0 m) : Rds w m.dv m.nd.data := by
  obtain ⟨g, cap, cur, h1, h2, h4, h5, h6, h7, h8⟩ := h.lt
  rw [h1]
  refine .inr ⟨⟨g, 0, none⟩, cap, rfl, fun _ => lt_of_block h4, fun j u hj => ?_⟩
  rw [add_zero]
  have hjl : j < m.nd.data.length := by
    have := (List.getElem?_eq_some_iff.1 hj).1
    rwa [Lib.byteCells_length] at this
  have hx : (m.nd.data ++ [167])[j]? = some m.nd.data[j] := by rw [List.getElem?_append_left hjl, List.getElem?_eq_getElem hjl]
  rw [ldat_cell h4 h8 hx]
  unfold Lib.byteCells at hj
  rw [List.getElem?_map, List.getElem?_eq_getElem hjl] at hj
  exact hj
theorem LtAt.nodes {w : World} {b0 : Nat} {v : Value} {ms : List Nv} (h : LtAt w b0 v ms) : Nodes w v ms := by
  obtain ⟨g, cap, cur, rfl, hb, hg, hc, hs, _, ht⟩ := h.row
  have hat : ∀ (i : Nat) n, ms[i]? = some n → (ms ++ [spare])[i]? = some n := fun i n hi => by rw [List.getElem?_append_left (List.getElem?_eq_some_iff.1 hi).1, hi]
  have hl : (ms ++ [spare]).length = ms.length + 1 := by simp
  rw [← hl] at ht
  refine .inr ⟨g, 0, cap, rfl, by omega, ⟨lt_of_block hg, fun i n hi => ?_, fun i n hi => ?_, fun i n hi => ?_, fun i n hi => ?_⟩, fun n hn => (h.dat n hn).rds⟩
  · rw [Nat.zero_add]; exact cell_row hg ht (r := 0) (hat i n hi) (by omega) rfl
  · rw [Nat.zero_add]; exact cell_row hg ht (r := 1) (hat i n hi) (by omega) rfl
  · rw [Nat.zero_add]; exact cell_row hg ht (r := 2) (hat i n hi) (by omega) rfl
  · rw [Nat.zero_add]; exact cell_row hg ht (r := 3) (hat i n hi) (by omega) rfl
theorem LtAt.below {w w' : World} {b0 : Nat} {v : Value} {ms : List Nv} (h : LtAt w b0 v ms) (hb : Below w.heap.size w w') : LtAt w' b0 v ms := by
  obtain ⟨g, cap, cur, rfl, h2, hg, r⟩ := h.row
  exact ⟨⟨g, cap, cur, rfl, h2, (hb.block g (lt_of_block hg)).trans hg, r⟩, fun m hm => (h.dat m hm).kept fun g _ hc => hb.block g (by obtain ⟨cur, hc⟩ := hc; exact lt_of_block hc)⟩
set_option maxRecDepth 100000 in
set_option maxHeartbeats 4000000 in
theorem Stays_any (b0 : Nat) (v v' : Value) (ms ns : List Nv) (clk rm : Int) (w : World) (h : LtAt w b0 v ms) (h' : Nodes w v' ns) (he : ms.map toE = ns.map toE) (hl : ns.length ≤ 1100) (hds : ∀ m ∈ ms, m.nd.data.length ≤ 300000) :
    Calls Tryz.prog 11 #[.agg #[v, .int .i64 clk, .int .i64 rm], .agg #[v', .int .i64 clk, .int .i64 rm]] w fun r w' => r = .returned (.bool true) ∧ Below w.heap.size w w' := by
  have hml : ms.length = ns.length := by have := congrArg List.length he; simpa using this
  obtain ⟨g, cap, cur, hv, hb, hg, hc, hs, hm, ht⟩ := h.row
  obtain ⟨a', c', hv'⟩ := h'.len
  subst hv
  subst hv'
  rw [hml] at hc ht
  have hb0 : Below w.heap.size w ((w.alloc (.cells #[.slice (some ⟨g, 0, none⟩) ns.length cap, .int .i64 clk, .int .i64 rm] 24)).alloc (.cells #[.slice a' ns.length c', .int .i64 clk, .int .i64 rm] 24)) := ((Below.refl _ _).alloc (Nat.le_refl _) _).alloc (by simp) _
  have z1 := (Below.heap_alloc (w.alloc (.cells #[.slice (some ⟨g, 0, none⟩) ns.length cap, .int .i64 clk, .int .i64 rm] 24)) (.cells #[.slice a' ns.length c', .int .i64 clk, .int .i64 rm] 24) w.heap.size (by simp)).trans (alloc_new w _)
  have z2 := alloc_new (w.alloc (.cells #[.slice (some ⟨g, 0, none⟩) ns.length cap, .int .i64 clk, .int .i64 rm] 24)) (.cells #[.slice a' ns.length c', .int .i64 clk, .int .i64 rm] 24)
  rw [size_alloc'] at z2
  have q := fun W (hW : Below w.heap.size w W) => Same_any (.slice (some ⟨g, 0, none⟩) ms.length cap) (.slice a' ns.length c') ms ns clk rm clk rm W (h.nodes.below hW) (h'.below hW) (by omega)
  rw [hml] at q
  have q0 := q _ hb0
  clear q
  go_enter Tryz.func11, Tryz.ntmps11
  go_upto_region 1 with fail
  obtain ⟨w0, hw0⟩ : ∃ w0, w0 = (w.alloc (.cells #[.slice (some ⟨g, 0, none⟩) ns.length cap, .int .i64 clk, .int .i64 rm] 24)).alloc (.cells #[.slice a' ns.length c', .int .i64 clk, .int .i64 rm] 24) := ⟨_, rfl⟩
  have hs0 : w0.heap.size = w.heap.size + 2 := by rw [hw0]; simp
  rw [← hw0] at hb0 z1 z2 q0 ⊢
  clear hw0
  have a0 : w0.cell? ⟨w.heap.size, 0, none⟩ = some (.slice (some ⟨g, 0, none⟩) ns.length cap) := by rw [Lib.cell_of_heap z1]; rfl
  have a1 : w0.cell? ⟨w.heap.size, 1, none⟩ = some (.int .i64 clk) := by rw [Lib.cell_of_heap z1]; rfl
  have a2 : w0.cell? ⟨w.heap.size, 2, none⟩ = some (.int .i64 rm) := by rw [Lib.cell_of_heap z1]; rfl
  have c0 : w0.cell? ⟨w.heap.size + 1, 0, none⟩ = some (.slice a' ns.length c') := by rw [Lib.cell_of_heap z2]; rfl
  have c1 : w0.cell? ⟨w.heap.size + 1, 1, none⟩ = some (.int .i64 clk) := by rw [Lib.cell_of_heap z2]; rfl
  have c2 : w0.cell? ⟨w.heap.size + 1, 2, none⟩ = some (.int .i64 rm) := by rw [Lib.cell_of_heap z2]; rfl
  go_wp2_with fail
  refine q0.mono ?_
  rintro r w1 ⟨⟨b, rfl, hbt⟩, hb1⟩
  obtain rfl : b = true := hbt.2 (by simp [he])
  clear hbt q0 a0 a1 a2 c0 c1 c2
  have hB1 := hb0.trans (hb1.mono hb0.size)
  have hs1 := hb1.size
  have y1 := (hb1.block _ (by omega)).trans z1
  have y2 := (hb1.block _ (by omega)).trans z2
  have hL := h.below hB1
  have hg1 := (hB1.block g (lt_of_block hg)).trans hg
  have a0 : w1.cell? ⟨w.heap.size, 0, none⟩ = some (.slice (some ⟨g, 0, none⟩) ns.length cap) := by rw [Lib.cell_of_heap y1]; rfl
  have c0 : w1.cell? ⟨w.heap.size + 1, 0, none⟩ = some (.slice a' ns.length c') := by rw [Lib.cell_of_heap y2]; rfl
  have hlen : (ms ++ [spare]).length = ns.length + 1 := by simp [hml]
  rw [← hlen] at ht
  have s2 : w1.cell? ⟨g, ns.length * 4 + 2, none⟩ = some (.int .i64 (-71)) := by
    have := cell_row hg1 ht (i := ns.length) (r := 2) (n := spare) (by rw [← hml]; simp) (by omega) rfl
    exact this
  have hcc : (ns.length : Int) + 1 ≤ cap := by omega
  have hcell : ∀ (i : Nat) m, ms[i]? = some m → w1.cell? ⟨g, i * 4 + 3, none⟩ = some m.dv := fun i m hi => cell_row hg1 ht (r := 3) (by rw [List.getElem?_append_left (List.getElem?_eq_some_iff.1 hi).1, hi]) (by omega) rfl
  have HC := hide' hcell
  have HL := hide' hL.dat
  clear hcell hL hg1 ht hlen y1 y2 z1 z2 h h' hb0 hb1 hg he
  go_wp2
  go_loopw [7, 8] (fun i _ wr => ∃ k : Nat, k ≤ ns.length ∧ i = .int .i64 k ∧ wr = w1) (fun i _ _ => ns.length - (intOf i).toNat)
  case atStart => exact ⟨0, Nat.zero_le _, rfl, rfl⟩
  case round =>
    obtain ⟨k, hk, rfl, rfl⟩ := hrel
    by_cases hkl : k < ns.length
    · have k1 : (k : Int) < ns.length := by omega
      obtain ⟨m, hm'⟩ : ∃ m, ms[k]? = some m := ⟨_, List.getElem?_eq_getElem (by omega)⟩
      have d3 := HC.out k m hm'
      have hmem := List.mem_of_getElem? hm'
      obtain ⟨g', cap', cur', e1, e2, e3, e4, e5, e6, e7⟩ := (HL.out m hmem).lt
      rw [e1] at d3
      have hdl := hds m hmem
      have hx : wr.cell? ⟨g', m.nd.data.length, none⟩ = some (.int .u8 167) := ldat_cell (m := m) (x := 167) e3 e7 (by simp)
      have hcd : (m.nd.data.length : Int) + 1 ≤ cap' := by omega
      generalize m.nd.data.length = dl at *
      clear e3 e7 hm' hmem hds
      go_wp2

      exact ⟨⟨k + 1, by omega, by simp, trivial⟩, by simp [intOf]; omega⟩
    · obtain rfl : k = ns.length := by omega
      have k1 : ¬ (ns.length : Int) < ns.length := by omega
      go_wp2
      go_ret
      exact ⟨rfl, hB1⟩
end Go.Proofs.YtamohpcdchhbbaaGreatDoor
