/- The contract of db.note. -/
import Derived.Test.YtkmedgdpcifnoaaDoorBl
import Derived.Test.YtkmedgdpcifnoaaDoorSu
import Derived.Test.YtkmedgdpcifnoaaDoorMp
namespace Go.Proofs.YtkmedgdpcifnoaaDoor
open Go.RowKit Go.Shelf

theorem info3 : (Tryd.prog.info? 3).map (fun i : TypeInfo => (i.zero, i.size, i.bytes)) = some (some (.int .i64 0), 1, 8) := by kernel_rfl
/-- a DB in memory -/
def DbC (w : World) (D : Nat) (v0 v1 v2 v3 : Value) : Prop := w.heap[D]? = some (.cells #[v0, v1, v2, v3] 57 (0, 0))
section
variable {w : World} {D : Nat} {v0 v1 v2 v3 : Value}
theorem DbC.c0 (x : DbC w D v0 v1 v2 v3) : w.cell? ⟨D, 0, none⟩ = some v0 := by unfold DbC at x; rw [Lib.cell_of_heap x]; rfl
theorem DbC.c1 (x : DbC w D v0 v1 v2 v3) : w.cell? ⟨D, 1, none⟩ = some v1 := by unfold DbC at x; rw [Lib.cell_of_heap x]; rfl
theorem DbC.c2 (x : DbC w D v0 v1 v2 v3) : w.cell? ⟨D, 2, none⟩ = some v2 := by unfold DbC at x; rw [Lib.cell_of_heap x]; rfl
theorem DbC.c3 (x : DbC w D v0 v1 v2 v3) : w.cell? ⟨D, 3, none⟩ = some v3 := by unfold DbC at x; rw [Lib.cell_of_heap x]; rfl
theorem DbC.fz (x : DbC w D v0 v1 v2 v3) (j : Nat) : w.frozen? ⟨D, j, none⟩ = false := Lib.frozen_of_heap x j
theorem DbC.lt (x : DbC w D v0 v1 v2 v3) : D < w.heap.size := lt_of_block x
theorem DbC.below {w' : World} (x : DbC w D v0 v1 v2 v3) (hb : Below w.heap.size w w') : DbC w' D v0 v1 v2 v3 := (hb.block D x.lt).trans x
end
/-- of what was there nothing has turned but block M and rows of numbers from B on -/
structure Nt (B M : Nat) (w w' : World) : Prop where
  os : w'.os = w.os
  tape : w'.tape = w.tape
  output : w'.output = w.output
  size : w.heap.size ≤ w'.heap.size
  keep : ∀ k, k < w.heap.size → k ≠ M → (k < B ∨ ∃ cs t f, w.heap[k]? = some (.cells cs t f) ∧ t ≠ 3) → w'.heap[k]? = w.heap[k]?
theorem Nt.refl (B M : Nat) (w : World) : Nt B M w w := ⟨rfl, rfl, rfl, Nat.le_refl _, fun _ _ _ _ => rfl⟩
theorem Nt.of_below {B M : Nat} {w w' : World} (h : Below w.heap.size w w') : Nt B M w w' := ⟨h.os, h.tape, h.output, h.size, fun k hk _ _ => h.block k hk⟩
theorem Nt.trans {B M : Nat} {a b c : World} (h : Nt B M a b) (g : Nt B M b c) : Nt B M a c :=
  ⟨g.os.trans h.os, g.tape.trans h.tape, g.output.trans h.output, Nat.le_trans h.size g.size, fun k hk hM ho => by
    have h1 := h.keep k hk hM ho
    refine (g.keep k (Nat.lt_of_lt_of_le hk h.size) hM ?_).trans h1
    rw [h1]
    exact ho⟩
theorem Nt.row {B M : Nat} {w w' : World} (h : Nt B M w w') {base e size n : Nat} {v : Value} {xs : List Value} (hr : w.ownsRow base e size v n xs) (he : e ≠ 3) (hM : ∃ es c, w.heap[M]? = some (.map es c)) : w'.ownsRow base e size v n xs :=
  own_kept hr fun g hg => by
    obtain ⟨cur, hcur⟩ := own_ty hr g hg
    obtain ⟨es, c, hm⟩ := hM
    exact h.keep g (own_lt hr g hg) (by rintro rfl; rw [hm] at hcur; cases hcur) (.inr ⟨_, _, _, hcur, he⟩)
theorem Nt.db {B M : Nat} {w w' : World} (h : Nt B M w w') {D : Nat} {v0 v1 v2 v3 : Value} (hd : DbC w D v0 v1 v2 v3) (hM : D ≠ M) : DbC w' D v0 v1 v2 v3 := (h.keep D hd.lt hM (.inr ⟨_, _, _, hd, by decide⟩)).trans hd
theorem Nt.grow {B M : Nat} {w w' : World} {row : Option Nat} (h : w.grownBy w' row) (hr : ∀ g, row = some g → B ≤ g ∧ ∃ cs f, w.heap[g]? = some (.cells cs 3 f)) : Nt B M w w' :=
  ⟨h.os, h.tape, h.output, h.size, fun k hk _ ho => h.block k hk (fun e => by
    obtain ⟨hB, cs, f, hc⟩ := hr k e.symm
    rcases ho with h1 | ⟨cs', t, f', hc', ht⟩
    · omega
    · rw [hc] at hc'
      simp only [Option.some.injEq, Obj.cells.injEq] at hc'
      exact ht hc'.2.1.symm)⟩
theorem Nt.map {B M : Nat} {w w' : World} (h : w.grownBy w' (some M)) : Nt B M w w' := ⟨h.os, h.tape, h.output, h.size, fun k hk hM _ => h.block k hk (fun e => hM (Option.some.inj e))⟩
theorem GrAt.isMap {w : World} {B M n : Nat} {f : Pf} (h : GrAt w B M n f) : ∃ es c, w.heap[M]? = some (.map es c) := by obtain ⟨D, ⟨es, c, hb, _⟩, _⟩ := h; exact ⟨es, c, hb⟩
theorem GrAt.base {w : World} {B M n : Nat} {f : Pf} (h : GrAt w B M n f) : M < B := by obtain ⟨D, ⟨es, c, _, _, _, _, hb, _⟩, _⟩ := h; exact hb
/-- a mention in a box -/
def Bm (w : World) (b : Nat) (x : ByteArray) (how : Int) : Prop := w.heap[b]? = some (.cells #[.string x, .int .i64 how] 75 (0, 0))
theorem Bm.c0 {w : World} {b : Nat} {x : ByteArray} {how : Int} (h : Bm w b x how) : w.cell? ⟨b, 0, none⟩ = some (.string x) := by unfold Bm at h; rw [Lib.cell_of_heap h]; rfl
theorem Bm.c1 {w : World} {b : Nat} {x : ByteArray} {how : Int} (h : Bm w b x how) : w.cell? ⟨b, 1, none⟩ = some (.int .i64 how) := by unfold Bm at h; rw [Lib.cell_of_heap h]; rfl
theorem own_cell {W : World} {B b n cap : Nat} {L : List Bs} (h : OwnS W B (.slice (some ⟨b, 0, none⟩) n cap) L) (j : Nat) (hj : j < L.length) : W.cell? ⟨b, j, none⟩ = some (sV (L.getD j [])) := by
  rcases h.2 with ⟨e, _⟩ | ⟨g, cap', cur, e, _, hg, h1, _, _, h4⟩
  · cases e
  · simp only [Value.slice.injEq, Option.some.injEq, Addr.mk.injEq] at e
    obtain ⟨⟨rfl, _⟩, _, _⟩ := e
    have hj' : (L.map sV)[j]? = some (sV (L.getD j [])) := by
      rw [List.getElem?_map, List.getD_eq_getElem?_getD, List.getElem?_eq_getElem hj]; rfl
    rw [← h4, List.getElem?_take_of_lt (by omega)] at hj'
    rw [Lib.cell_of_heap hg]
    simpa using hj'
theorem int_last {W : World} {B p c : Nat} {a : Option Addr} {l : List Nat} (h : W.ownsInts B 3 .i64 (.slice a (p + 1) c) (nI l)) (hp : l.length = p + 1) : ∃ g z, a = some ⟨g, 0, none⟩ ∧ l.getLast? = some z ∧ W.cell? ⟨g, p, none⟩ = some (.int .i64 (z : Nat)) := by
  rcases h.1.2 with ⟨e, _⟩ | ⟨g, cap', cur, e, _, hg, h1, _, _, h4⟩
  · cases e
  · simp only [Value.slice.injEq] at e
    rw [nI_len] at h4
    have hz : l.getLast? = some (l[p]'(by omega)) := by
      rw [List.getLast?_eq_getElem?, show l.length - 1 = p by omega, List.getElem?_eq_getElem (by omega)]
    refine ⟨g, _, e.1, hz, ?_⟩
    have hj' : ((nI l).map (Value.int .i64))[p]? = some (.int .i64 ((l[p]'(by omega) : Nat))) := by
      unfold nI
      rw [List.getElem?_map, List.getElem?_map, List.getElem?_eq_getElem (by omega)]; rfl
    rw [← h4, List.getElem?_take_of_lt (by omega)] at hj'
    rw [Lib.cell_of_heap hg]
    simpa using hj'
theorem i64_id' (z : Int) (h : 0 ≤ z ∧ z ≤ 9223372036854775807) : wrap64 z = z := by
  unfold wrap64
  omega
theorem noteS_no {f : Pf} {at_ how : Nat} {x : Bs} (h : (f x how).getLast? = some at_) : noteS at_ how f x = f := by
  funext y k
  unfold noteS
  rw [if_neg (fun e => e.2.2 h)]
theorem noteS_yes {f : Pf} {at_ how : Nat} {x : Bs} (h : ¬ (f x how).getLast? = some at_) : noteS at_ how f x = upd f x how (f x how ++ [at_]) := by
  funext y k
  unfold noteS upd
  by_cases e : y = x ∧ k = how
  · rw [if_pos e, if_pos ⟨e.1, e.2, h⟩]
  · rw [if_neg e, if_neg (fun e1 => e ⟨e1.1, e1.2.1⟩)]
theorem noteP_snoc (at_ how : Nat) (f : Pf) (l : List Bs) (x : Bs) : noteP at_ how f (l ++ [x]) = noteS at_ how (noteP at_ how f l) x := by unfold noteP; rw [List.foldl_append]; rfl
/-- a place more in a row of the map's -/
theorem app_int {W : World} {B : Nat} {v : Value} {l : List Nat} (h : W.ownsInts B 3 .i64 v (nI l)) (i : Nat) (hi : i ≤ 1000000000) (hl : l.length ≤ 1000000000) (hB : B ≤ W.heap.size) :
    ∃ v' w', (∀ ty : TypeId, (Builtin.append_ #[46, 46] ty #[v, .slice (some ⟨W.heap.size, 0, none⟩) 1 1]).run Tryd.prog (W.alloc (.cells #[.int .i64 i] 3)) = .ok v' w') ∧ w'.ownsInts B 3 .i64 v' (nI (l ++ [i])) ∧ W.grownBy w' v.ownBlock ∧ (v'.ownBlock = v.ownBlock ∨ ∃ k, v'.ownBlock = some k ∧ W.heap.size ≤ k) ∧ ∃ a n c, v' = .slice a n c := by
  obtain ⟨i0, hi0, hz0, hz1, hz2⟩ := info_parts info3
  have hal : W.grownBy (W.alloc (.cells #[.int .i64 i] 3)) v.ownBlock := World.grownBy_alloc _ _ _
  have run := fun ty => run_append_own_at (W.alloc (.cells #[.int .i64 i] 3)) B 46 ty 3 i0 (.int .i64 0) 1 8 Tryd.underlying46 hi0 hz0 hz1 hz2 rfl (by decide) v (nI l).length ((nI l).map (Value.int .i64)) (h.1.alloc _) ⟨W.heap.size, 0, none⟩ 1 1 [.int .i64 i] rfl (cell_one_new _ _ _) (by intro u hu; simp at hu; subst hu; rfl) (by rw [nI_len]; unfold maxLen; omega) (by rw [nI_len]; omega) (by simp; omega)
  obtain ⟨v', w', hr, ho, hg, _, hloc⟩ := run 0
  refine ⟨v', w', fun ty => by rw [← hr]; rfl, ?_, hal.trans hg, hloc.imp id (fun e => ⟨_, e, by simp⟩), own_form3 ho⟩
  have := h.appended (x := (i : Int)) ho (WalkArith.wf_i64 (by omega))
  unfold nI at *
  rw [List.map_append]
  exact this
set_option maxRecDepth 100000 in
set_option maxHeartbeats 8000000 in
theorem note_some (D B B0 M n0 at_ how : Nat) (f : Pf) (v0 v1 v3 : Value) (L : List Bs) (b cap : Nat) (w : World) (hd : DbC w D v0 v1 (.map (some M)) v3) (hg : GrAt w B M n0 f) (hn0 : n0 ≤ 100000000) (hat : at_ ≤ 1000000) (hh : how ≤ 9) (hl : L.length ≤ 100000) (hBw : B ≤ w.heap.size)
    (hs : ∀ x ∈ L, x.length ≤ 1000000000) (hown : OwnS w B0 (.slice (some ⟨b, 0, none⟩) L.length cap) L) :
    Calls Tryd.prog 56 #[.pointer (some ⟨D, 0, none⟩), .int .i64 at_, .int .i64 how, .slice (some ⟨b, 0, none⟩) L.length cap] w fun e w' => e = .returned (.tuple #[]) ∧ ∃ n, GrAt w' B M n (noteP at_ how f L) ∧ n ≤ n0 + L.length ∧ Nt B M w w' := by
  have hDM : D ≠ M := by
    rintro rfl
    obtain ⟨es, c, hm⟩ := hg.isMap
    unfold DbC at hd
    rw [hm] at hd
    cases hd
  go_enter Tryd.func56, Tryd.ntmps56
  go_wp2
  go_loopw [14] (fun i wr => ∃ (k n : Nat), k ≤ L.length ∧ i = .int .i64 k ∧ GrAt wr B M n (noteP at_ how f (L.take k)) ∧ n ≤ n0 + k ∧ Nt B M w wr) (fun i _ => L.length - (intOf i).toNat)
  case atStart => exact ⟨0, n0, Nat.zero_le _, rfl, hg, Nat.le_refl _, Nt.refl _ _ _⟩
  case round =>
    obtain ⟨k, n, hk, rfl, hG, hn, hN⟩ := hrel
    have hM := hg.isMap
    by_cases hlt : k < L.length
    · have hdr := hN.db hd hDM
      have cc := own_cell (hN.row hown (by decide) hM) k hlt
      have hx : (L.getD k []).length ≤ 1000000000 := by rw [List.getD_eq_getElem?_getD, List.getElem?_eq_getElem hlt]; exact hs _ (List.getElem_mem hlt)
      have HT : Hid (noteS at_ how (noteP at_ how f (L.take k)) (L.getD k []) = noteP at_ how f (L.take (k + 1))) := by
        show _ = _
        rw [List.take_succ_eq_append_getElem hlt, noteP_snoc, List.getD_eq_getElem?_getD, List.getElem?_eq_getElem hlt]
        rfl
      generalize L.getD k [] = x at cc hx HT
      generalize noteP at_ how f (L.take k) = fk at hG HT
      have HD := hide' hd
      have HGG := hide' hg
      have HO := hide' hown
      have HS := hide' hs
      have HM := hide' hM
      have HN := hide' hN
      have hbm : Bm (wr.alloc (.cells #[.string (mk x), .int .i64 how] 75)) wr.heap.size (mk x) how := heap_alloc_new wr _
      have hb5 : Below wr.heap.size wr (wr.alloc (.cells #[.string (mk x), .int .i64 how] 75)) := (Below.refl _ _).alloc (Nat.le_refl _) _
      clear hd hg hown hs hM hN
      go_upto_region 4 with fail
      generalize wr.alloc (.cells #[.string (mk x), .int .i64 how] 75) = W5 at hbm hb5 ⊢
      have hd5 := hdr.below hb5
      have hG5 : GrAt W5.drew B M n fk := hG.below hb5.drew
      have hB5 : B ≤ W5.drew.heap.size := Nat.le_trans hBw (Nat.le_trans HN.out.size hb5.size)
      obtain ⟨v, hr, hoi, hlen, hback⟩ := hG5.look (by omega) x how (by unfold maxLen; omega) hh
      obtain ⟨va, vc, rfl⟩ := own_len hoi.1
      obtain ⟨m, hm⟩ : ∃ m, m = (nI (fk x how)).length := ⟨_, rfl⟩
      rw [← hm] at hr hoi hback
      have HM := hide' hm
      clear hm
      refine wp_region_class (C := fun W => (DbC W D v0 v1 (.map (some M)) v3 ∧ Bm W wr.heap.size (mk x) how) ∧ (Instr.lookup 55 (.map (some M)) (.agg #[.string (mk x), .int .i64 how]) false).run Tryd.prog W = .ok (.slice va m vc) W) (by kernel_rfl) ?_
      have hC : (DbC W5.drew D v0 v1 (.map (some M)) v3 ∧ Bm W5.drew wr.heap.size (mk x) how) ∧ (Instr.lookup 55 (.map (some M)) (.agg #[.string (mk x), .int .i64 how]) false).run Tryd.prog W5.drew = .ok (.slice va m vc) W5.drew := ⟨⟨hd5, hbm⟩, hr⟩
      (refine wpAnyC_take (i := 0) (v := ?_) hC rfl (by kernel_rfl) (by kernel_rfl) (by kernel_rfl) (fun _ _ _ h => h) (Or.inl ⟨by kernel_rfl, ?_⟩) ?_; rotate_left; (intro w hc; have k0 := hc.1.1.c2; have k1 := hc.1.2.c0; have k2 := hc.1.2.c1; have k3 := hc.2; clear hc; go_simp; try with_reducible rfl))
      (refine wpAnyC_take (i := 1) (v := ?_) hC rfl (by kernel_rfl) (by kernel_rfl) (by kernel_rfl) (fun _ _ _ h => h) (Or.inl ⟨by kernel_rfl, ?_⟩) ?_; rotate_left; (intro w hc; have k0 := hc.1.1.c2; have k1 := hc.1.2.c0; have k2 := hc.1.2.c1; have k3 := hc.2; clear hc; go_simp; try with_reducible rfl))
      (refine wpAnyC_take (i := 2) (v := ?_) hC rfl (by kernel_rfl) (by kernel_rfl) (by kernel_rfl) (fun _ _ _ h => h) (Or.inl ⟨by kernel_rfl, ?_⟩) ?_; rotate_left; (intro w hc; have k0 := hc.1.1.c2; have k1 := hc.1.2.c0; have k2 := hc.1.2.c1; have k3 := hc.2; clear hc; go_simp; try with_reducible rfl))
      (refine wpAnyC_take (i := 3) (v := ?_) hC rfl (by kernel_rfl) (by kernel_rfl) (by kernel_rfl) (fun _ _ _ h => h) (Or.inl ⟨by kernel_rfl, ?_⟩) ?_; rotate_left; (intro w hc; have k0 := hc.1.1.c2; have k1 := hc.1.2.c0; have k2 := hc.1.2.c1; have k3 := hc.2; clear hc; go_simp; try with_reducible rfl))
      (refine wpAnyC_take (i := 4) (v := ?_) hC rfl (by kernel_rfl) (by kernel_rfl) (by kernel_rfl) (fun _ _ _ h => h) (Or.inl ⟨by kernel_rfl, ?_⟩) ?_; rotate_left; (intro w hc; have k0 := hc.1.1.c2; have k1 := hc.1.2.c0; have k2 := hc.1.2.c1; have k3 := hc.2; clear hc; go_simp; try with_reducible rfl))
      go_simp
      (refine wpAnyC_take (i := 5) (v := ?_) hC rfl (by kernel_rfl) (by kernel_rfl) (by kernel_rfl) (fun _ _ _ h => h) (Or.inl ⟨by kernel_rfl, ?_⟩) ?_; rotate_left; (intro w hc; have k0 := hc.1.1.c2; have k1 := hc.1.2.c0; have k2 := hc.1.2.c1; have k3 := hc.2; clear hc; go_simp; try with_reducible rfl))
      (refine wpAnyC_take (i := 6) (v := ?_) hC rfl (by kernel_rfl) (by kernel_rfl) (by kernel_rfl) (fun _ _ _ h => h) (Or.inl ⟨by kernel_rfl, ?_⟩) ?_; rotate_left; (intro w hc; have k0 := hc.1.1.c2; have k1 := hc.1.2.c0; have k2 := hc.1.2.c1; have k3 := hc.2; clear hc; go_simp; try with_reducible rfl))
      refine wpAnyC_done (by kernel_rfl) ?_ _
      have hml : m = (fk x how).length := by rw [HM.out, nI_len]
      have HML := hide' hml
      have HLN := hide' hlen
      have HG := hide' (And.intro hG5 hoi)
      have HB5 := hide' hb5
      have hdrw : W5.grownBy W5.drew none := ⟨rfl, rfl, rfl, Nat.le_refl _, fun _ _ _ => rfl⟩
      have HR := hide' hr
      have HBK := hide' hback
      have HB5s := hide' hB5
      clear hr hG hG5 hoi hb5 hC hback hB5 hml hlen
      generalize wr.heap.size = A at hbm ⊢
      rcases Nat.eq_zero_or_pos m with hz | hz
      · have d1 : ((m : Int) == 0) = true := beq_iff_eq.2 (by omega)
        have HZ := hide' hz
        clear hz
        go_upto_region 6 with fail
        have hne : ¬ (fk x how).getLast? = some at_ := by
          have h1 := HML.out
          have e0 : fk x how = [] := List.eq_nil_of_length_eq_zero (by rw [← h1]; exact HZ.out)
          rw [e0]
          simp
        obtain ⟨v', w7, hr7, ho7, hg7, hloc, va', vm', vc', rfl⟩ := app_int (W := W5.drew.drew) (B := B) (l := fk x how) (show W5.drew.drew.ownsInts B 3 .i64 (.slice va m vc) (nI (fk x how)) from HG.out.2) at_ (by omega) (by have := HML.out; have := HLN.out; omega) HB5s.out
        obtain ⟨w8, hr8, hG8, hg8⟩ := HBK.out w7 (.slice va' vm' vc') (fk x how ++ [at_]) ⟨hg7.os, hg7.tape, hg7.output, hg7.size, hg7.block⟩ ho7 (by rw [List.length_append]; have := HLN.out; simp; omega) hloc
        have hN8 : Nt B M w w8 := ((HN.out.trans (Nt.of_below HB5.out)).trans (Nt.grow (w := W5) (row := Value.ownBlock (.slice va m vc)) ⟨hg7.os, hg7.tape, hg7.output, hg7.size, hg7.block⟩ (fun g hg => ⟨own_low HG.out.2.1 g hg, (own_ty HG.out.2.1 g hg).imp fun cs h => ⟨(0, 0), h⟩⟩))).trans (Nt.map hg8)
        rw [← noteS_yes hne, HT.out] at hG8
        have HR7 := hide' hr7
        have hnr : ∀ (k : Nat) (cs : Array Value) (t : TypeId), t ≠ 3 → W5.heap[k]? = some (Obj.cells cs t (0, 0)) → w7.heap[k]? = some (Obj.cells cs t (0, 0)) := fun k cs t ht hk => (hg7.block k (lt_of_block hk) (fun e1 => own_block HG.out.2.1 hk ht e1.symm)).trans hk
        have hC8 : DbC w7 D v0 v1 (.map (some M)) v3 ∧ Bm w7 A (mk x) how := ⟨hnr _ _ _ (by decide) hd5, hnr _ _ _ (by decide) hbm⟩
        have HR8 := hide' (And.intro hr8 (And.intro hG8 hN8))
        have hC6 : DbC W5.drew.drew D v0 v1 (.map (some M)) v3 ∧ Bm W5.drew.drew A (mk x) how := ⟨hd5, hbm⟩
        clear hr7 hr8 hG8 hN8 ho7 hg7 hloc hg8 HBK hne
        refine wp_region_classX [9] (C := fun W => DbC W D v0 v1 (.map (some M)) v3 ∧ Bm W A (mk x) how) (by kernel_rfl) ?_
        (refine wpAnyX_take (i := 0) (v := ?_) hC6 rfl (by kernel_rfl) (by kernel_rfl) (by kernel_rfl) (by kernel_rfl) (fun _ _ _ h => h) (Or.inl ⟨by kernel_rfl, ?_⟩) ?_; rotate_left; (intro w hc; have k0 := hc.1.c2; have k1 := hc.2.c0; have k2 := hc.2.c1; clear hc; go_simp; try with_reducible rfl))
        (refine wpAnyX_take (i := 1) (v := ?_) hC6 rfl (by kernel_rfl) (by kernel_rfl) (by kernel_rfl) (by kernel_rfl) (fun _ _ _ h => h) (Or.inl ⟨by kernel_rfl, ?_⟩) ?_; rotate_left; (intro w hc; have k0 := hc.1.c2; have k1 := hc.2.c0; have k2 := hc.2.c1; clear hc; go_simp; try with_reducible rfl))
        (refine wpAnyX_take (i := 2) (v := ?_) hC6 rfl (by kernel_rfl) (by kernel_rfl) (by kernel_rfl) (by kernel_rfl) (fun _ _ _ h => h) (Or.inl ⟨by kernel_rfl, ?_⟩) ?_; rotate_left; (intro w hc; have k0 := hc.1.c2; have k1 := hc.2.c0; have k2 := hc.2.c1; clear hc; go_simp; try with_reducible rfl))
        (refine wpAnyX_take (i := 3) (v := ?_) hC6 rfl (by kernel_rfl) (by kernel_rfl) (by kernel_rfl) (by kernel_rfl) (fun _ _ _ h => h) (Or.inl ⟨by kernel_rfl, ?_⟩) ?_; rotate_left; (intro w hc; have k0 := hc.1.c2; have k1 := hc.2.c0; have k2 := hc.2.c1; clear hc; go_simp; try with_reducible rfl))
        go_simp
        (refine wpAnyX_take (i := 4) (v := ?_) hC6 rfl (by kernel_rfl) (by kernel_rfl) (by kernel_rfl) (by kernel_rfl) (fun _ _ _ h => h) (Or.inl ⟨by kernel_rfl, ?_⟩) ?_; rotate_left; (intro w hc; have k0 := hc.1.c2; have k1 := hc.2.c0; have k2 := hc.2.c1; clear hc; go_simp; try with_reducible rfl))
        (refine wpAnyX_take (i := 5) (v := ?_) hC6 rfl (by kernel_rfl) (by kernel_rfl) (by kernel_rfl) (by kernel_rfl) (fun _ _ _ h => h) (Or.inl ⟨by kernel_rfl, ?_⟩) ?_; rotate_left; (intro w hc; have k0 := hc.1.c2; have k1 := hc.2.c0; have k2 := hc.2.c1; clear hc; go_simp; try with_reducible rfl))
        (refine wpAnyX_take (i := 6) (v := ?_) hC6 rfl (by kernel_rfl) (by kernel_rfl) (by kernel_rfl) (by kernel_rfl) (fun _ _ _ h => h) (Or.inl ⟨by kernel_rfl, ?_⟩) ?_; rotate_left; (intro w hc; have k0 := hc.1.c2; have k1 := hc.2.c0; have k2 := hc.2.c1; clear hc; go_simp; try with_reducible rfl))
        go_simp
        refine wpAnyX_one (i := 7) (by kernel_rfl) (wpOp_wanted rfl (by rfl) ?_)
        go_simp
        have hC7 : DbC (W5.drew.drew.alloc (.cells #[.int .i64 at_] 3)) D v0 v1 (.map (some M)) v3 ∧ Bm (W5.drew.drew.alloc (.cells #[.int .i64 at_] 3)) A (mk x) how := ⟨hC6.1.below ((Below.refl _ _).alloc (Nat.le_refl _) _), (Below.heap_alloc _ _ _ (lt_of_block hC6.2)).trans hC6.2⟩
        refine ⟨hC7, ?_⟩
        refine wpAnyX_one (i := 8) (by kernel_rfl) (wpOp_wanted rfl (by rfl) (wp_app_run _ _ 46 rfl _ _ _ _ rfl rfl HR7.out ⟨fun _ => hC8, ?_⟩))
        refine wpAnyX_one (i := 9) (by kernel_rfl) (wpOp_wanted rfl (by rfl) ?_)
        have hr8 := HR8.out.1
        go_simp
        refine wpAnyX_done (by kernel_rfl) ?_ _
        clear hr8
        go_wp2
        exact ⟨⟨k + 1, n + 1, by omega, by go_num, HR8.out.2.1, by omega, HR8.out.2.2⟩, by simp [intOf]; omega⟩
      · obtain ⟨p, rfl⟩ : ∃ p, m = p + 1 := ⟨m - 1, by omega⟩
        obtain ⟨g, z, rfl, hlast, hcell⟩ := int_last HG.out.2 (by rw [← HML.out])
        have d1 : ((p : Int) + 1 == 0) = false := beq_eq_false_iff_ne.2 (by omega)
        have d2 : wrap64 (p : Int) = (p : Int) := i64_id' _ (by have := HML.out; have := HLN.out; omega)
        clear hz
        by_cases hza : z = at_
        · subst hza
          have d3 : ((z : Int) != (z : Int)) = false := by simp
          have HG' := hide' HG.out.1
          clear HG
          go_wp2
          rw [noteS_no hlast] at HT
          have hN5 : Nt B M w W5.drew := HN.out.trans ((Nt.of_below HB5.out).trans (Nt.of_below (Below.refl _ W5).drew))
          exact ⟨⟨k + 1, n, by omega, by go_num, HT.out ▸ HG'.out, by omega, hN5⟩, by simp [intOf]; omega⟩
        · have hzi : ¬ (z : Int) = (at_ : Int) := by omega
          have d3 : ((z : Int) != (at_ : Int)) = true := by simpa using hzi
          go_upto_region 6 with fail
          have hne : ¬ (fk x how).getLast? = some at_ := by rw [hlast]; intro e1; exact hza (Option.some.inj e1)
          obtain ⟨v', w7, hr7, ho7, hg7, hloc, va', vm', vc', rfl⟩ := app_int (W := W5.drew.drew) (B := B) (l := fk x how) (show W5.drew.drew.ownsInts B 3 .i64 (.slice (some ⟨g, 0, none⟩) (p + 1) vc) (nI (fk x how)) from HG.out.2) at_ (by omega) (by have := HML.out; have := HLN.out; omega) HB5s.out
          obtain ⟨w8, hr8, hG8, hg8⟩ := HBK.out w7 (.slice va' vm' vc') (fk x how ++ [at_]) ⟨hg7.os, hg7.tape, hg7.output, hg7.size, hg7.block⟩ ho7 (by rw [List.length_append]; have := HLN.out; simp; omega) hloc
          have hN8 : Nt B M w w8 := ((HN.out.trans (Nt.of_below HB5.out)).trans (Nt.grow (w := W5) (row := Value.ownBlock (.slice (some ⟨g, 0, none⟩) (p + 1) vc)) ⟨hg7.os, hg7.tape, hg7.output, hg7.size, hg7.block⟩ (fun g hg => ⟨own_low HG.out.2.1 g hg, (own_ty HG.out.2.1 g hg).imp fun cs h => ⟨(0, 0), h⟩⟩))).trans (Nt.map hg8)
          rw [← noteS_yes hne, HT.out] at hG8
          have HR7 := hide' hr7
          have hnr : ∀ (k : Nat) (cs : Array Value) (t : TypeId), t ≠ 3 → W5.heap[k]? = some (Obj.cells cs t (0, 0)) → w7.heap[k]? = some (Obj.cells cs t (0, 0)) := fun k cs t ht hk => (hg7.block k (lt_of_block hk) (fun e1 => own_block HG.out.2.1 hk ht e1.symm)).trans hk
          have hC8 : DbC w7 D v0 v1 (.map (some M)) v3 ∧ Bm w7 A (mk x) how := ⟨hnr _ _ _ (by decide) hd5, hnr _ _ _ (by decide) hbm⟩
          have HR8 := hide' (And.intro hr8 (And.intro hG8 hN8))
          have hC6 : DbC W5.drew.drew D v0 v1 (.map (some M)) v3 ∧ Bm W5.drew.drew A (mk x) how := ⟨hd5, hbm⟩
          clear hr7 hr8 hG8 hN8 ho7 hg7 hloc hg8 HBK hne
          refine wp_region_classX [9] (C := fun W => DbC W D v0 v1 (.map (some M)) v3 ∧ Bm W A (mk x) how) (by kernel_rfl) ?_
          (refine wpAnyX_take (i := 0) (v := ?_) hC6 rfl (by kernel_rfl) (by kernel_rfl) (by kernel_rfl) (by kernel_rfl) (fun _ _ _ h => h) (Or.inl ⟨by kernel_rfl, ?_⟩) ?_; rotate_left; (intro w hc; have k0 := hc.1.c2; have k1 := hc.2.c0; have k2 := hc.2.c1; clear hc; go_simp; try with_reducible rfl))
          (refine wpAnyX_take (i := 1) (v := ?_) hC6 rfl (by kernel_rfl) (by kernel_rfl) (by kernel_rfl) (by kernel_rfl) (fun _ _ _ h => h) (Or.inl ⟨by kernel_rfl, ?_⟩) ?_; rotate_left; (intro w hc; have k0 := hc.1.c2; have k1 := hc.2.c0; have k2 := hc.2.c1; clear hc; go_simp; try with_reducible rfl))
          (refine wpAnyX_take (i := 2) (v := ?_) hC6 rfl (by kernel_rfl) (by kernel_rfl) (by kernel_rfl) (by kernel_rfl) (fun _ _ _ h => h) (Or.inl ⟨by kernel_rfl, ?_⟩) ?_; rotate_left; (intro w hc; have k0 := hc.1.c2; have k1 := hc.2.c0; have k2 := hc.2.c1; clear hc; go_simp; try with_reducible rfl))
          (refine wpAnyX_take (i := 3) (v := ?_) hC6 rfl (by kernel_rfl) (by kernel_rfl) (by kernel_rfl) (by kernel_rfl) (fun _ _ _ h => h) (Or.inl ⟨by kernel_rfl, ?_⟩) ?_; rotate_left; (intro w hc; have k0 := hc.1.c2; have k1 := hc.2.c0; have k2 := hc.2.c1; clear hc; go_simp; try with_reducible rfl))
          go_simp
          (refine wpAnyX_take (i := 4) (v := ?_) hC6 rfl (by kernel_rfl) (by kernel_rfl) (by kernel_rfl) (by kernel_rfl) (fun _ _ _ h => h) (Or.inl ⟨by kernel_rfl, ?_⟩) ?_; rotate_left; (intro w hc; have k0 := hc.1.c2; have k1 := hc.2.c0; have k2 := hc.2.c1; clear hc; go_simp; try with_reducible rfl))
          (refine wpAnyX_take (i := 5) (v := ?_) hC6 rfl (by kernel_rfl) (by kernel_rfl) (by kernel_rfl) (by kernel_rfl) (fun _ _ _ h => h) (Or.inl ⟨by kernel_rfl, ?_⟩) ?_; rotate_left; (intro w hc; have k0 := hc.1.c2; have k1 := hc.2.c0; have k2 := hc.2.c1; clear hc; go_simp; try with_reducible rfl))
          (refine wpAnyX_take (i := 6) (v := ?_) hC6 rfl (by kernel_rfl) (by kernel_rfl) (by kernel_rfl) (by kernel_rfl) (fun _ _ _ h => h) (Or.inl ⟨by kernel_rfl, ?_⟩) ?_; rotate_left; (intro w hc; have k0 := hc.1.c2; have k1 := hc.2.c0; have k2 := hc.2.c1; clear hc; go_simp; try with_reducible rfl))
          go_simp
          refine wpAnyX_one (i := 7) (by kernel_rfl) (wpOp_wanted rfl (by rfl) ?_)
          go_simp
          have hC7 : DbC (W5.drew.drew.alloc (.cells #[.int .i64 at_] 3)) D v0 v1 (.map (some M)) v3 ∧ Bm (W5.drew.drew.alloc (.cells #[.int .i64 at_] 3)) A (mk x) how := ⟨hC6.1.below ((Below.refl _ _).alloc (Nat.le_refl _) _), (Below.heap_alloc _ _ _ (lt_of_block hC6.2)).trans hC6.2⟩
          refine ⟨hC7, ?_⟩
          refine wpAnyX_one (i := 8) (by kernel_rfl) (wpOp_wanted rfl (by rfl) (wp_app_run _ _ 46 rfl _ _ _ _ rfl rfl HR7.out ⟨fun _ => hC8, ?_⟩))
          refine wpAnyX_one (i := 9) (by kernel_rfl) (wpOp_wanted rfl (by rfl) ?_)
          have hr8 := HR8.out.1
          go_simp
          refine wpAnyX_done (by kernel_rfl) ?_ _
          clear hr8
          go_wp2
          exact ⟨⟨k + 1, n + 1, by omega, by go_num, HR8.out.2.1, by omega, HR8.out.2.2⟩, by simp [intOf]; omega⟩
    · have hke : L.take k = L := List.take_of_length_le (by omega)
      rw [hke] at hG
      have HG := hide' hG
      have HN := hide' hN
      clear hG hN hke hd hg hown hs hM
      go_wp2
      go_end0
      exact ⟨rfl, n, HG.out, by omega, HN.out⟩
end Go.Proofs.YtkmedgdpcifnoaaDoor
