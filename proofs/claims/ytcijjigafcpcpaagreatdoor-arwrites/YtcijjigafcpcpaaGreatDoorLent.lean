/- The contract of anvillaw7.lent: the members in a row of their own, with one more place behind each. -/
import Derived.Test.YtcijjigafcpcpaaGreatDoorRws
import Derived.Deep.Cut
namespace Go.Proofs.YtcijjigafcpcpaaGreatDoor
open Go.RowKit Go.Maps

structure LnC (b : Nat) (dv : Value) (w : World) : Prop where
  c3 : w.cell? ⟨b, 2, none⟩ = some dv
/-- bytes with one more behind -/
def LDat (w : World) (b0 : Nat) (m : Mv) : Prop := ∃ g cap, m.dv = .slice (some ⟨g, 0, none⟩) m.data.length cap ∧ b0 ≤ g ∧ Dat w (.slice (some ⟨g, 0, none⟩) (m.data.length + 1) cap) (m.data ++ [167])
def spare : Mv := ⟨[], -71, .slice none 0 0, []⟩
/-- a lent row of nodes -/
structure LtAt (w : World) (b0 : Nat) (v : Value) (ms : List Mv) : Prop where
  row : ∃ g cap cur, v = .slice (some ⟨g, 0, none⟩) ms.length cap ∧ b0 ≤ g ∧ w.heap[g]? = some (.cells cur 37 (0, 0)) ∧ ms.length + 1 ≤ cap ∧ cap * 3 ≤ cur.size ∧ cap ≤ maxLen ∧ cur.toList.take ((ms.length + 1) * 3) = flat (ms ++ [spare])
  dat : ∀ m ∈ ms, LDat w b0 m
theorem LDat.kept {w w' : World} {b0 : Nat} {m : Mv} (h : LDat w b0 m) (hk : ∀ g, b0 ≤ g → (∃ cur, w.heap[g]? = some (.cells cur 5 (0, 0))) → w'.heap[g]? = w.heap[g]?) : LDat w' b0 m := by
  obtain ⟨g, cap, h1, h2, h3⟩ := h
  exact ⟨g, cap, h1, h2, h3.kept fun g' hg' => hk g' (by cases hg'; exact h2) (h3.elem g' hg')⟩
theorem LDat.grown {w w' : World} {b0 n : Nat} {m : Mv} {va : Value} {xs : List Value} (h : LDat w b0 m) {base : Nat} (ho : w.ownsRow base 37 3 va n xs) (hg : w.grownBy w' va.ownBlock) : LDat w' b0 m := by
  refine h.kept fun g _ hc => ?_
  obtain ⟨cur, hc⟩ := hc
  refine hg.block g (lt_of_block hc) fun e => ?_
  rcases ho.2 with ⟨rfl, _⟩ | ⟨g', cap, cur', rfl, _, hr, _⟩
  · cases e
  · have e1 : g = g' := Option.some.inj e
    rw [e1, hr] at hc
    simp at hc
set_option maxRecDepth 100000 in
set_option maxHeartbeats 8000000 in
theorem lent_any' (sa : Option Addr) (cap : Nat) (ns : List Mv) (w : World) (hsa : ns ≠ [] → ∃ g o, sa = some ⟨g, o, none⟩ ∧ MRow w g o ns) (hr : ∀ n ∈ ns, Rds w n.dv n.data) (hl : ns.length ≤ 100000) (hds : ∀ n ∈ ns, n.data.length ≤ 300000) :
    Calls Tryz.prog 10 #[.slice sa ns.length cap] w fun r w' => (∃ v ms, r = .returned v ∧ LtAt w' w.heap.size v ms ∧ ms.map toE = ns.map toE) ∧ Below w.heap.size w w' := by
  go_enter Tryz.func10, Tryz.ntmps10
  go_wp2
  go_loopw [3, 4, 5] (fun l i _ wr => ∃ (k : Nat) (ms : List Mv), k ≤ ns.length ∧ i = .int .i64 k ∧ wr.ownsRow w.heap.size 37 3 l ms.length (flat ms) ∧ (∀ m ∈ ms, LDat wr w.heap.size m) ∧ ms.length = k ∧ ms.map toE = (ns.take k).map toE ∧ Below w.heap.size w wr) (fun _ i _ _ => ns.length - (intOf i).toNat)
  case atStart => exact ⟨0, [], Nat.zero_le _, rfl, World.ownsRow_nil _ _ _ _, fun n hn => (by cases hn), rfl, rfl, Below.refl _ _⟩
  case round =>
    obtain ⟨k, ms, hk, rfl, hown, hdat, hmk, hme, hBe⟩ := hrel
    have hBw : Below w.heap.size w wr := hBe
    by_cases hkl : k < ns.length
    · have k1 : (k : Int) < ns.length := by omega
      obtain ⟨n, hn⟩ : ∃ n, ns[k]? = some n := ⟨_, List.getElem?_eq_getElem hkl⟩
      have hmem := List.mem_of_getElem? hn
      obtain ⟨g, o, hse, h⟩ := hsa (fun e => by rw [e] at hkl; simp at hkl)
      subst hse
      have hR := h.below hBw
      have d0 := hR.c0 k n hn
      have d1 := hR.c1 k n hn
      have d2 := hR.c2 k n hn
      have hrd := (hr n hmem).below hBw
      obtain ⟨da, dc, hdv⟩ := hrd.len
      rw [hdv] at d2 hrd
      have hdl : n.data.length ≤ 300000 := hds n hmem
      go_upto_region 6 with fail
      refine wp_region_classX [10] (C := LnC wr.heap.size (.slice da n.data.length dc)) (by kernel_rfl) ?_
      obtain ⟨w7, hw7⟩ : ∃ w7, w7 = (wr.alloc (.cells #[.string (mk n.name), .int .i64 n.date, .slice da n.data.length dc] 37)).drew := ⟨_, rfl⟩
      have z7 : w7.heap[wr.heap.size]? = some (.cells #[.string (mk n.name), .int .i64 n.date, .slice da n.data.length dc] 37 (0, 0)) := by rw [hw7]; exact alloc_new _ _
      have hB7 : Below wr.heap.size wr w7 := by rw [hw7]; exact ((Below.refl _ _).alloc (Nat.le_refl _) _).drew
      have hlt7 : wr.heap.size < w7.heap.size := lt_of_block z7
      have hC7 : LnC wr.heap.size (.slice da n.data.length dc) w7 := ⟨by rw [Lib.cell_of_heap z7]; rfl⟩
      have hrd7 := hrd.below hB7
      rw [← hw7]
      clear hw7
      (refine wpAnyX_take (i := 0) (v := ?_) hC7 rfl (by kernel_rfl) (by kernel_rfl) (by kernel_rfl) (by kernel_rfl) (fun _ _ _ h => h) (Or.inl ⟨by kernel_rfl, ?_⟩) ?_; rotate_left; (intro w hc; have k3 := hc.c3; clear hc; go_simp; try with_reducible rfl))
      (refine wpAnyX_take (i := 1) (v := ?_) hC7 rfl (by kernel_rfl) (by kernel_rfl) (by kernel_rfl) (by kernel_rfl) (fun _ _ _ h => h) (Or.inl ⟨by kernel_rfl, ?_⟩) ?_; rotate_left; (intro w hc; have k3 := hc.c3; clear hc; go_simp; try with_reducible rfl))
      (refine wpAnyX_take (i := 5) (v := ?_) hC7 rfl (by kernel_rfl) (by kernel_rfl) (by kernel_rfl) (by kernel_rfl) (fun _ _ _ h => h) (Or.inl ⟨by kernel_rfl, ?_⟩) ?_; rotate_left; (intro w hc; have k3 := hc.c3; clear hc; go_simp; try with_reducible rfl))
      (refine wpAnyX_take (i := 6) (v := ?_) hC7 rfl (by kernel_rfl) (by kernel_rfl) (by kernel_rfl) (by kernel_rfl) (fun _ _ _ h => h) (Or.inl ⟨by kernel_rfl, ?_⟩) ?_; rotate_left; (intro w hc; have k3 := hc.c3; clear hc; go_simp; try with_reducible rfl))
      (refine wpAnyX_take (i := 7) (v := ?_) hC7 rfl (by kernel_rfl) (by kernel_rfl) (by kernel_rfl) (by kernel_rfl) (fun _ _ _ h => h) (Or.inl ⟨by kernel_rfl, ?_⟩) ?_; rotate_left; (intro w hc; have k3 := hc.c3; clear hc; go_simp; try with_reducible rfl))
      refine wpAnyX_two (i := 2) (j := 3) (by kernel_rfl) ?_ ?_
      · refine wpOp_wanted rfl (by rfl) ?_
        refine wp_append_dat (v := .slice none 0 0) _ _ _ rfl rfl rfl (Dat.nil _) hrd7 (by simp; omega) ?_
        intro v2 w8 hd2 _ hg2 ho2
        have hd2 : Dat w8 v2 n.data := hd2
        have hb8 : Below w7.heap.size w7 w8 := ⟨hg2.os, hg2.tape, hg2.output, hg2.size, fun b hb => hg2.block b hb (by simp [Value.ownBlock])⟩
        have hlo2 : ∀ g, v2.ownBlock = some g → w7.heap.size ≤ g := fun g hg => by
          rcases ho2 with e | e
          · rw [hg] at e; cases e
          · rw [hg] at e; have := Option.some.inj e; omega
        have z8 := (hb8.block _ hlt7).trans z7
        have hC8 : LnC wr.heap.size (.slice da n.data.length dc) w8 := ⟨by rw [Lib.cell_of_heap z8]; rfl⟩
        refine ⟨fun _ => hC8, ?_⟩
        have hb9 : Below w8.heap.size w8 (w8.alloc (.cells #[.int .u8 167] 5)) := (Below.refl _ _).alloc (Nat.le_refl _) _
        have hC9 : LnC wr.heap.size (.slice da n.data.length dc) (w8.alloc (.cells #[.int .u8 167] 5)) := ⟨(hb9.cell (p := ⟨_, 2, none⟩) (lt_of_block z8)).trans hC8.c3⟩
        have hrd9 := one_rds w8
        refine wpAnyX_one (i := 3) (by kernel_rfl) (wpOp_wanted rfl (by rfl) ?_)
        go_simp
        refine wpAnyX_one (i := 4) (by kernel_rfl) (wpOp_wanted rfl (by rfl) ?_)
        refine wp_append_dat (v := v2) _ _ _ rfl rfl rfl (hd2.kept fun g hg => hb9.block g (hd2.lt g hg)) hrd9 (by simp; omega) ?_
        intro v4 w10 hd4 _ hg4 ho4
        have z9 := (hb9.block _ (lt_of_block z8)).trans z8
        have hB9 : Below wr.heap.size wr (w8.alloc (.cells #[.int .u8 167] 5)) := hB7.trans ((hb8.mono hB7.size).trans (hb9.mono (Nat.le_trans hB7.size hb8.size)))
        have hs7 := hB7.size
        have hn4 : ∀ b, b < wr.heap.size → some b ≠ v2.ownBlock := fun b hb e => by have := hlo2 b e.symm; omega
        have hnb4 : some wr.heap.size ≠ v2.ownBlock := fun e => by have := hlo2 _ e.symm; omega
        have hlo4 : ∀ g, v2.ownBlock = some g → w.heap.size ≤ g := fun g hg => by have h1 := hlo2 g hg; have h2 := hBe.size; omega
        have hlen : (n.data ++ [167]).length = n.data.length + 1 := by simp
        obtain ⟨g4, c4, cur4, hv4, hcur4, hl4, hs4, hm4, ht4⟩ : ∃ g cap cur, v4 = .slice (some ⟨g, 0, none⟩) (n.data.length + 1) cap ∧ w10.heap[g]? = some (.cells cur 5 (0, 0)) ∧ n.data.length + 1 ≤ cap ∧ cap ≤ cur.size ∧ cap ≤ maxLen ∧ cur.toList.take (n.data.length + 1) = Lib.byteCells (n.data ++ [167]) := by
          rcases hd4 with ⟨_, e⟩ | ⟨g, cap, cur, e1, e2, e3, e4, e5, e6⟩
          · simp at e
          · rw [hlen] at e1 e3 e6
            exact ⟨g, cap, cur, e1, e2, e3, e4, e5, e6⟩
        subst hv4
        have hB10 : Below wr.heap.size wr w10 := hB9.trans ⟨hg4.os, hg4.tape, hg4.output, hg4.size, fun b hb => hg4.block b (Nat.lt_of_lt_of_le hb hB9.size) (hn4 b hb)⟩
        have z10 : w10.heap[wr.heap.size]? = some (.cells #[.string (mk n.name), .int .i64 n.date, .slice da n.data.length dc] 37 (0, 0)) := (hg4.block _ (lt_of_block z9) hnb4).trans z9
        have hC10 : LnC wr.heap.size (.slice da n.data.length dc) w10 := ⟨by rw [Lib.cell_of_heap z10]; rfl⟩
        have hg4n : w.heap.size ≤ g4 := by
          rcases ho4 with e | e
          · exact hlo4 g4 e.symm
          · have := Option.some.inj e
            have h1 := hB9.size
            have h2 := hBe.size
            simp only at this
            omega
        refine ⟨fun _ => hC10, ?_⟩
        have hfz := Lib.frozen_of_heap z10 2
        have hc3 := hC10.c3
        have hle : (n.data.length : Int) ≤ c4 := by omega
        have HK := hide' (And.intro hd4 (And.intro hB10 (And.intro z10 (And.intro hcur4 (And.intro hl4 (And.intro hs4 (And.intro hm4 ht4)))))))
        clear hd4 hB10 hcur4 hl4 hs4 ht4 hg4 ho4 hn4 hnb4 hlo4 hB9 z9 z10
        refine wpAnyX_one (i := 8) (by kernel_rfl) (wpOp_wanted rfl (by rfl) ?_)
        go_simp
        refine wpAnyX_one (i := 9) (by kernel_rfl) (wpOp_wanted rfl (by rfl) ?_)
        go_simp
        refine wpAnyX_one (i := 10) (by kernel_rfl) (wpOp_wanted rfl (by rfl) ?_)
        go_simp
        refine wpAnyX_done (by kernel_rfl) ?_ _
        obtain ⟨hd4, hB10, z10, hcur4, hl4, hs4, _, ht4⟩ := HK.out
        obtain ⟨w8, hw8⟩ : ∃ w8, w8 = w10.setCell ⟨wr.heap.size, 2, none⟩ (.slice (some ⟨g4, 0, none⟩) n.data.length c4) := ⟨_, rfl⟩
        have z8 : w8.heap[wr.heap.size]? = some (.cells #[.string (mk n.name), .int .i64 n.date, .slice (some ⟨g4, 0, none⟩) n.data.length c4] 37 (0, 0)) := by rw [hw8]; exact set_row z10 2 _
        have hk8 : ∀ b, b ≠ wr.heap.size → w8.heap[b]? = w10.heap[b]? := fun b hb => by rw [hw8]; exact Below.heap_setCell w10 ⟨wr.heap.size, 2, none⟩ _ b (by simpa using hb)
        have hB8 : Below wr.heap.size wr w8 := by rw [hw8]; exact hB10.setCell (p := ⟨wr.heap.size, 2, none⟩) (Nat.le_refl _) _
        have hd8 : Dat w8 (.slice (some ⟨g4, 0, none⟩) (n.data.length + 1) c4) (n.data ++ [167]) := hd4.kept fun g hg => hk8 g (by
          obtain ⟨cur, hc⟩ := hd4.elem g hg
          intro e
          rw [e, z10] at hc
          simp at hc)
        have e0 : w8.cell? ⟨wr.heap.size, 0, none⟩ = some (.string (mk n.name)) := by rw [Lib.cell_of_heap z8]; rfl
        have e1 : w8.cell? ⟨wr.heap.size, 1, none⟩ = some (.int .i64 n.date) := by rw [Lib.cell_of_heap z8]; rfl
        have e3 : w8.cell? ⟨wr.heap.size, 2, none⟩ = some (.slice (some ⟨g4, 0, none⟩) n.data.length c4) := by rw [Lib.cell_of_heap z8]; rfl
        rw [← hw8]
        have hb9 : Below w8.heap.size w8 (w8.alloc (.cells #[.string (mk n.name), .int .i64 n.date, .slice (some ⟨g4, 0, none⟩) n.data.length c4] 37)) := (Below.refl _ _).alloc (Nat.le_refl _) _
        have hB9 : Below wr.heap.size wr (w8.alloc (.cells #[.string (mk n.name), .int .i64 n.date, .slice (some ⟨g4, 0, none⟩) n.data.length c4] 37)) := hB8.trans (hb9.mono hB8.size)
        have hown9 : (w8.alloc (.cells #[.string (mk n.name), .int .i64 n.date, .slice (some ⟨g4, 0, none⟩) n.data.length c4] 37)).ownsRow w.heap.size 37 3 u3 ms.length (flat ms) := own_kept hown hB9
        have hsr := hBe.size
        have hs8 := hB8.size
        have hwz : w.heap.size ≤ (w8.alloc (.cells #[.string (mk n.name), .int .i64 n.date, .slice (some ⟨g4, 0, none⟩) n.data.length c4] 37)).heap.size := by simp; omega
        have HK := hide' (And.intro hd8 (And.intro hB8 (And.intro hB9 (And.intro hown9 (And.intro hdat (And.intro hme (And.intro hn (And.intro hBe (And.intro hown hb9)))))))))
        clear hd8 hB8 hB9 hdat hme hn hBe hown hb9 hw8 hk8 z8 z10 hd4 hB10  hBw h hsa hr hds hR d0 d1 d2 hrd hmem
        obtain ⟨inf, hi, hz0, hz1, hz2⟩ := info_parts info37
        go_wp2_with (at_builtin; refine wpList_append_lies _ rfl _ _ 22 rfl w.heap.size 37 inf _ 3 48 Tryz.underlying22 hi hz0 hz1 hz2 rfl (by decide) u3 ms.length (flat ms) rfl hown9 ⟨w8.heap.size, 0, none⟩ 1 1 (cellsM ⟨n.name, n.date, .slice (some ⟨g4, 0, none⟩) n.data.length c4, n.data⟩) rfl rfl (news_cells w8 _) (news_one _ _ _ _ _ _) (by decide) (by unfold maxLen; omega) (by omega) hwz _ rfl ?_)
        intro g9 c9 w9 hown10 hgr hat hlt
        obtain ⟨hd8, hB8, hB9, _, hdat, hme, hn, hBe, hown, hb9⟩ := HK.out
        clear hi hz0 hz1 hz2 hown9
        go_wp2
        have hl9 : ∀ m, LDat (w8.alloc (.cells #[.string (mk n.name), .int .i64 n.date, .slice (some ⟨g4, 0, none⟩) n.data.length c4] 37)) w.heap.size m → LDat w9 w.heap.size m := fun m hm => hm.grown (own_kept hown hB9) hgr
        refine ⟨⟨k + 1, ms ++ [⟨n.name, n.date, .slice (some ⟨g4, 0, none⟩) n.data.length c4, n.data⟩], by omega, by simp, ?_, fun m hm => ?_, by simp [hmk], ?_, ?_⟩, by simp [intOf]; omega⟩
        · rw [flat_snoc, List.length_append, hmk]
          exact hown10
        · rcases List.mem_append.1 hm with hm | hm
          · exact hl9 m ((hdat m hm).kept fun g _ hc => hB9.block g (by obtain ⟨cur, hc⟩ := hc; exact lt_of_block hc))
          · rw [List.mem_singleton.1 hm]
            exact hl9 _ ⟨g4, c4, rfl, hg4n, hd8.kept fun g hg => hb9.block g (hd8.lt g hg)⟩
        · rw [List.map_append, hme, List.take_add_one, hn, List.map_append]
          rfl
        · exact hBe.trans ⟨hgr.os.trans hB9.os, hgr.tape.trans hB9.tape, hgr.output.trans hB9.output, Nat.le_trans hB9.size hgr.size, fun b hb => (hgr.block b (by omega) (own_lt hown hb)).trans (hB9.block b (by omega))⟩
      · refine wpOp_wanted rfl (by rfl) ?_
        have hb8 : Below w7.heap.size w7 (w7.alloc (.cells #[.int .u8 167] 5)) := (Below.refl _ _).alloc (Nat.le_refl _) _
        have z8 := (hb8.block _ hlt7).trans z7
        have hC8 : LnC wr.heap.size (.slice da n.data.length dc) (w7.alloc (.cells #[.int .u8 167] 5)) := ⟨by rw [Lib.cell_of_heap z8]; rfl⟩
        have hrd9 := one_rds w7
        have hrd8 := hrd7.below hb8
        go_simp
        refine wpAnyX_one (i := 2) (by kernel_rfl) (wpOp_wanted rfl (by rfl) ?_)
        refine wp_append_dat (v := .slice none 0 0) _ _ _ rfl rfl rfl (Dat.nil _) hrd8 (by simp; omega) ?_
        intro v2 w9 hd2 _ hg2 ho2
        have hd2 : Dat w9 v2 n.data := hd2
        have hb9 : Below (w7.alloc (.cells #[.int .u8 167] 5)).heap.size (w7.alloc (.cells #[.int .u8 167] 5)) w9 := ⟨hg2.os, hg2.tape, hg2.output, hg2.size, fun b hb => hg2.block b hb (by simp [Value.ownBlock])⟩
        have hlo2 : ∀ g, v2.ownBlock = some g → w7.heap.size + 1 ≤ g := fun g hg => by
          rcases ho2 with e | e
          · rw [hg] at e; cases e
          · rw [hg] at e; have := Option.some.inj e; simp at this; omega
        have z9 := (hb9.block _ (lt_of_block z8)).trans z8
        have hC9 : LnC wr.heap.size (.slice da n.data.length dc) w9 := ⟨by rw [Lib.cell_of_heap z9]; rfl⟩
        refine ⟨fun _ => hC9, ?_⟩
        refine wpAnyX_one (i := 4) (by kernel_rfl) (wpOp_wanted rfl (by rfl) ?_)
        refine wp_append_dat (v := v2) _ _ _ rfl rfl rfl hd2 (hrd9.below hb9) (by simp; omega) ?_
        intro v4 w10 hd4 _ hg4 ho4
        have hB9 : Below wr.heap.size wr w9 := hB7.trans ((hb8.mono hB7.size).trans (hb9.mono (Nat.le_trans hB7.size hb8.size)))
        have hs7 := hB7.size
        have hn4 : ∀ b, b < wr.heap.size → some b ≠ v2.ownBlock := fun b hb e => by have := hlo2 b e.symm; omega
        have hnb4 : some wr.heap.size ≠ v2.ownBlock := fun e => by have := hlo2 _ e.symm; omega
        have hlo4 : ∀ g, v2.ownBlock = some g → w.heap.size ≤ g := fun g hg => by have h1 := hlo2 g hg; have h2 := hBe.size; omega
        have hlen : (n.data ++ [167]).length = n.data.length + 1 := by simp
        obtain ⟨g4, c4, cur4, hv4, hcur4, hl4, hs4, hm4, ht4⟩ : ∃ g cap cur, v4 = .slice (some ⟨g, 0, none⟩) (n.data.length + 1) cap ∧ w10.heap[g]? = some (.cells cur 5 (0, 0)) ∧ n.data.length + 1 ≤ cap ∧ cap ≤ cur.size ∧ cap ≤ maxLen ∧ cur.toList.take (n.data.length + 1) = Lib.byteCells (n.data ++ [167]) := by
          rcases hd4 with ⟨_, e⟩ | ⟨g, cap, cur, e1, e2, e3, e4, e5, e6⟩
          · simp at e
          · rw [hlen] at e1 e3 e6
            exact ⟨g, cap, cur, e1, e2, e3, e4, e5, e6⟩
        subst hv4
        have hB10 : Below wr.heap.size wr w10 := hB9.trans ⟨hg4.os, hg4.tape, hg4.output, hg4.size, fun b hb => hg4.block b (Nat.lt_of_lt_of_le hb hB9.size) (hn4 b hb)⟩
        have z10 : w10.heap[wr.heap.size]? = some (.cells #[.string (mk n.name), .int .i64 n.date, .slice da n.data.length dc] 37 (0, 0)) := (hg4.block _ (lt_of_block z9) hnb4).trans z9
        have hC10 : LnC wr.heap.size (.slice da n.data.length dc) w10 := ⟨by rw [Lib.cell_of_heap z10]; rfl⟩
        have hg4n : w.heap.size ≤ g4 := by
          rcases ho4 with e | e
          · exact hlo4 g4 e.symm
          · have := Option.some.inj e
            have h1 := hB9.size
            have h2 := hBe.size
            simp only at this
            omega
        refine ⟨fun _ => hC10, ?_⟩
        have hfz := Lib.frozen_of_heap z10 2
        have hc3 := hC10.c3
        have hle : (n.data.length : Int) ≤ c4 := by omega
        have HK := hide' (And.intro hd4 (And.intro hB10 (And.intro z10 (And.intro hcur4 (And.intro hl4 (And.intro hs4 (And.intro hm4 ht4)))))))
        clear hd4 hB10 hcur4 hl4 hs4 ht4 hg4 ho4 hn4 hnb4 hlo4 hB9 z9 z10
        refine wpAnyX_one (i := 8) (by kernel_rfl) (wpOp_wanted rfl (by rfl) ?_)
        go_simp
        refine wpAnyX_one (i := 9) (by kernel_rfl) (wpOp_wanted rfl (by rfl) ?_)
        go_simp
        refine wpAnyX_one (i := 10) (by kernel_rfl) (wpOp_wanted rfl (by rfl) ?_)
        go_simp
        refine wpAnyX_done (by kernel_rfl) ?_ _
        obtain ⟨hd4, hB10, z10, hcur4, hl4, hs4, _, ht4⟩ := HK.out
        obtain ⟨w8, hw8⟩ : ∃ w8, w8 = w10.setCell ⟨wr.heap.size, 2, none⟩ (.slice (some ⟨g4, 0, none⟩) n.data.length c4) := ⟨_, rfl⟩
        have z8 : w8.heap[wr.heap.size]? = some (.cells #[.string (mk n.name), .int .i64 n.date, .slice (some ⟨g4, 0, none⟩) n.data.length c4] 37 (0, 0)) := by rw [hw8]; exact set_row z10 2 _
        have hk8 : ∀ b, b ≠ wr.heap.size → w8.heap[b]? = w10.heap[b]? := fun b hb => by rw [hw8]; exact Below.heap_setCell w10 ⟨wr.heap.size, 2, none⟩ _ b (by simpa using hb)
        have hB8 : Below wr.heap.size wr w8 := by rw [hw8]; exact hB10.setCell (p := ⟨wr.heap.size, 2, none⟩) (Nat.le_refl _) _
        have hd8 : Dat w8 (.slice (some ⟨g4, 0, none⟩) (n.data.length + 1) c4) (n.data ++ [167]) := hd4.kept fun g hg => hk8 g (by
          obtain ⟨cur, hc⟩ := hd4.elem g hg
          intro e
          rw [e, z10] at hc
          simp at hc)
        have e0 : w8.cell? ⟨wr.heap.size, 0, none⟩ = some (.string (mk n.name)) := by rw [Lib.cell_of_heap z8]; rfl
        have e1 : w8.cell? ⟨wr.heap.size, 1, none⟩ = some (.int .i64 n.date) := by rw [Lib.cell_of_heap z8]; rfl
        have e3 : w8.cell? ⟨wr.heap.size, 2, none⟩ = some (.slice (some ⟨g4, 0, none⟩) n.data.length c4) := by rw [Lib.cell_of_heap z8]; rfl
        rw [← hw8]
        have hb9 : Below w8.heap.size w8 (w8.alloc (.cells #[.string (mk n.name), .int .i64 n.date, .slice (some ⟨g4, 0, none⟩) n.data.length c4] 37)) := (Below.refl _ _).alloc (Nat.le_refl _) _
        have hB9 : Below wr.heap.size wr (w8.alloc (.cells #[.string (mk n.name), .int .i64 n.date, .slice (some ⟨g4, 0, none⟩) n.data.length c4] 37)) := hB8.trans (hb9.mono hB8.size)
        have hown9 : (w8.alloc (.cells #[.string (mk n.name), .int .i64 n.date, .slice (some ⟨g4, 0, none⟩) n.data.length c4] 37)).ownsRow w.heap.size 37 3 u3 ms.length (flat ms) := own_kept hown hB9
        have hsr := hBe.size
        have hs8 := hB8.size
        have hwz : w.heap.size ≤ (w8.alloc (.cells #[.string (mk n.name), .int .i64 n.date, .slice (some ⟨g4, 0, none⟩) n.data.length c4] 37)).heap.size := by simp; omega
        have HK := hide' (And.intro hd8 (And.intro hB8 (And.intro hB9 (And.intro hown9 (And.intro hdat (And.intro hme (And.intro hn (And.intro hBe (And.intro hown hb9)))))))))
        clear hd8 hB8 hB9 hdat hme hn hBe hown hb9 hw8 hk8 z8 z10 hd4 hB10  hBw h hsa hr hds hR d0 d1 d2 hrd hmem
        obtain ⟨inf, hi, hz0, hz1, hz2⟩ := info_parts info37
        go_wp2_with (at_builtin; refine wpList_append_lies _ rfl _ _ 22 rfl w.heap.size 37 inf _ 3 48 Tryz.underlying22 hi hz0 hz1 hz2 rfl (by decide) u3 ms.length (flat ms) rfl hown9 ⟨w8.heap.size, 0, none⟩ 1 1 (cellsM ⟨n.name, n.date, .slice (some ⟨g4, 0, none⟩) n.data.length c4, n.data⟩) rfl rfl (news_cells w8 _) (news_one _ _ _ _ _ _) (by decide) (by unfold maxLen; omega) (by omega) hwz _ rfl ?_)
        intro g9 c9 w9 hown10 hgr hat hlt
        obtain ⟨hd8, hB8, hB9, _, hdat, hme, hn, hBe, hown, hb9⟩ := HK.out
        clear hi hz0 hz1 hz2 hown9
        go_wp2
        have hl9 : ∀ m, LDat (w8.alloc (.cells #[.string (mk n.name), .int .i64 n.date, .slice (some ⟨g4, 0, none⟩) n.data.length c4] 37)) w.heap.size m → LDat w9 w.heap.size m := fun m hm => hm.grown (own_kept hown hB9) hgr
        refine ⟨⟨k + 1, ms ++ [⟨n.name, n.date, .slice (some ⟨g4, 0, none⟩) n.data.length c4, n.data⟩], by omega, by simp, ?_, fun m hm => ?_, by simp [hmk], ?_, ?_⟩, by simp [intOf]; omega⟩
        · rw [flat_snoc, List.length_append, hmk]
          exact hown10
        · rcases List.mem_append.1 hm with hm | hm
          · exact hl9 m ((hdat m hm).kept fun g _ hc => hB9.block g (by obtain ⟨cur, hc⟩ := hc; exact lt_of_block hc))
          · rw [List.mem_singleton.1 hm]
            exact hl9 _ ⟨g4, c4, rfl, hg4n, hd8.kept fun g hg => hb9.block g (hd8.lt g hg)⟩
        · rw [List.map_append, hme, List.take_add_one, hn, List.map_append]
          rfl
        · exact hBe.trans ⟨hgr.os.trans hB9.os, hgr.tape.trans hB9.tape, hgr.output.trans hB9.output, Nat.le_trans hB9.size hgr.size, fun b hb => (hgr.block b (by omega) (own_lt hown hb)).trans (hB9.block b (by omega))⟩
    · obtain rfl : k = ns.length := by omega
      have k1 : ¬ (ns.length : Int) < ns.length := by omega
      rw [List.take_length] at hme
      have hb9 : Below wr.heap.size wr (wr.alloc (.cells #[.string ⟨#[]⟩, .int .i64 (-71), .slice none 0 0] 37)) := (Below.refl _ _).alloc (Nat.le_refl _) _
      have hown9 : (wr.alloc (.cells #[.string ⟨#[]⟩, .int .i64 (-71), .slice none 0 0] 37)).ownsRow w.heap.size 37 3 u3 ms.length (flat ms) := own_kept hown hb9
      have hsr := hBe.size
      have hwz : w.heap.size ≤ (wr.alloc (.cells #[.string ⟨#[]⟩, .int .i64 (-71), .slice none 0 0] 37)).heap.size := by simp; omega
      have hnews := news_cells wr spare
      obtain ⟨lv, hlv⟩ : ∃ a c, u3 = .slice a ms.length c := by
        rcases hown.2 with ⟨e, e2⟩ | ⟨g1, c1, cur1, e, _⟩
        · exact ⟨none, 0, by rw [e, e2]⟩
        · exact ⟨_, _, e⟩
      obtain ⟨lc, hlv⟩ := hlv
      have HK := hide' (And.intro hdat (And.intro hme (And.intro hBe (And.intro hown hb9))))
      clear hdat hme hBe hown hb9 hBw hsa hr hds
      obtain ⟨inf, hi, hz0, hz1, hz2⟩ := info_parts info37
      subst hlv
      go_wp2_with (at_builtin; refine wpList_append_lies _ rfl _ _ 22 rfl w.heap.size 37 inf _ 3 48 Tryz.underlying22 hi hz0 hz1 hz2 rfl (by decide) (.slice lv ms.length lc) ms.length (flat ms) rfl hown9 ⟨wr.heap.size, 0, none⟩ 1 1 (cellsM spare) rfl rfl hnews (news_one _ _ _ _ _ _) (by decide) (by unfold maxLen; omega) (by omega) hwz _ rfl ?_)
      intro g9 c9 w9 hown10 hgr hat hlt
      obtain ⟨hdat, hme, hBe, hown, hb9⟩ := HK.out
      have hk9 : ∀ b, b < w.heap.size → w9.heap[b]? = wr.heap[b]? := fun b hb => (hgr.block b (by simp; omega) (by rw [← hmk]; exact own_lt hown hb)).trans (hb9.block b (by omega))
      obtain ⟨cur, hgc, hcc, hcm, hcs, hct, hgb⟩ : ∃ cur, w9.heap[g9]? = some (.cells cur 37 (0, 0)) ∧ ns.length + 1 ≤ c9 ∧ c9 ≤ maxLen ∧ cur.size = c9 * 3 ∧ cur.toList.take ((ns.length + 1) * 3) = flat ms ++ cellsM spare ∧ w.heap.size ≤ g9 := by
        rcases hown10.2 with ⟨e3, _⟩ | ⟨g, cap, cur, e3, hbg, hg, r1, r2, r3, r4⟩
        · cases e3
        · cases e3; exact ⟨cur, hg, r1, r2, r3, r4, hbg⟩
      have hcle : (ns.length : Int) ≤ c9 := by omega
      have HJ := hide' (And.intro hdat (And.intro hme (And.intro hBe (And.intro hown (And.intro hb9 (And.intro hgr (And.intro hk9 (And.intro hgc (And.intro hcs hct)))))))))
      clear hdat hme hBe hown hb9 hgr hk9 hgc hct HK hown10 hown9 hnews hwz hi hz0 hz1 hz2 hat
      go_wp2
      obtain ⟨hdat, hme, hBe, hown, hb9, hgr, hk9, hgc, hcs, hct⟩ := HJ.out
      have hB9 : Below w.heap.size w w9 := hBe.trans ⟨hgr.os.trans hb9.os, hgr.tape.trans hb9.tape, hgr.output.trans hb9.output, Nat.le_trans hb9.size hgr.size, fun b hb => hk9 b (by omega)⟩
      have hl9 : ∀ m ∈ ms, LDat w9 w.heap.size m := fun m hm => LDat.grown ((hdat m hm).kept fun g _ hc => hb9.block g (by obtain ⟨cur, hc⟩ := hc; exact lt_of_block hc)) (own_kept hown hb9) (by rw [hmk]; exact hgr)
      go_ret
      refine ⟨⟨_, ms, rfl, ⟨⟨g9, c9, cur, by rw [hmk]; rfl, hgb, hgc, by omega, by omega, hcm, by rw [hmk, flat_snoc]; exact hct⟩, hl9⟩, hme⟩, hB9⟩
/-- lent -/
theorem lent_any (v : Value) (ns : List Mv) (w : World) (h : Mems w v ns) (hl : ns.length ≤ 100000) (hds : ∀ n ∈ ns, n.data.length ≤ 300000) :
    Calls Tryz.prog 10 #[v] w fun r w' => (∃ v ms, r = .returned v ∧ LtAt w' w.heap.size v ms ∧ ms.map toE = ns.map toE) ∧ Below w.heap.size w w' := by
  rcases h with ⟨⟨a, c, rfl⟩, rfl⟩ | ⟨g, o, cap, rfl, h0, h1, h2⟩
  · exact lent_any' a c [] w (fun e => absurd rfl e) (fun n hn => (by cases hn)) hl hds
  · exact lent_any' _ cap ns w (fun _ => ⟨g, o, rfl, h1⟩) h2 hl hds
end Go.Proofs.YtcijjigafcpcpaaGreatDoor
