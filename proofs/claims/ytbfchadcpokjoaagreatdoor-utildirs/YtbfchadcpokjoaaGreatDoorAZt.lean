/- The law's tree and num. The law's run of a utility over a tree. The law's run of test and of [. -/
import Derived.Test.YtbfchadcpokjoaaGreatDoorAZy
import Derived.Test.YtbfchadcpokjoaaGreatDoorAZl
import Derived.Lib.SlBytesConst
import Derived.Test.YtbfchadcpokjoaaGreatDoorAZu
import Derived.Test.YtbfchadcpokjoaaGreatDoorAZx
import Derived.Test.YtbfchadcpokjoaaGreatDoorAZv
namespace Go.Proofs.YtbfchadcpokjoaaGreatDoor
open Go.RowKit

theorem lnum_any (n : Int) (w : World) : Calls Tryz.prog 12 #[.int .i64 n] w fun r w' => r = .returned (.int .i64 n) ∧ w' = w := by
  go_enter Tryz.func12, Tryz.ntmps12
  go_wp2
  go_ret
  exact ⟨rfl, rfl⟩
/-- the nodes of the law's tree, the bytes of the second being at the block n + 1, of the first at n -/
def tns (n : Nat) : List Nv := [⟨[97], .slice (some ⟨n, 0, none⟩) 1 1, ⟨false, 1, [49]⟩⟩, ⟨[98], .slice (some ⟨n + 1, 0, none⟩) 2 2, ⟨false, 2, [50, 50]⟩⟩, ⟨[100], .slice none 0 0, ⟨true, 3, []⟩⟩]
def treeT : Tr := [([97], ⟨false, 1, [49]⟩), ([98], ⟨false, 2, [50, 50]⟩), ([100], ⟨true, 3, []⟩)]
theorem newR_tns (n : Nat) : newR (tns n) 3 60000 = .inr treeT := by rfl
theorem four_alloc (w : World) (o1 o2 o3 o4 : Obj) : ((((w.alloc o1).alloc o2).alloc o3).alloc o4).heap[w.heap.size]? = some o1 ∧ ((((w.alloc o1).alloc o2).alloc o3).alloc o4).heap[w.heap.size + 1]? = some o2 ∧ ((((w.alloc o1).alloc o2).alloc o3).alloc o4).heap[w.heap.size + 1 + 1]? = some o3 ∧ ((((w.alloc o1).alloc o2).alloc o3).alloc o4).heap[w.heap.size + 1 + 1 + 1]? = some o4 := by
  refine ⟨?_, ?_, ?_, ?_⟩
  · exact (Below.heap_alloc _ _ _ (by rw [size_alloc'] <;> simp only [size_alloc'] <;> omega)).trans ((Below.heap_alloc _ _ _ (by simp; omega)).trans ((Below.heap_alloc _ _ _ (by simp)).trans (alloc_new w o1)))
  · have q := alloc_new (w.alloc o1) o2
    rw [size_alloc'] at q
    exact (Below.heap_alloc _ _ _ (by simp [World.size_alloc] <;> omega)).trans ((Below.heap_alloc _ _ _ (by simp)).trans q)
  · have q := alloc_new ((w.alloc o1).alloc o2) o3
    rw [size_alloc', size_alloc'] at q
    exact (Below.heap_alloc _ _ _ (by simp)).trans q
  · have q := alloc_new (((w.alloc o1).alloc o2).alloc o3) o4
    rw [size_alloc', size_alloc', size_alloc'] at q
    exact q
set_option maxHeartbeats 1000000 in
set_option maxRecDepth 100000 in
theorem res10 (tmps : Array Value) (b : Nat) (x y z : Value) (W : World) (h4 : tmps.getD 0 undef = .pointer (some ⟨b, 0, none⟩)) (hb : W.heap[b]? = some (.cells #[x, y, z] 28 (0, 0))) : (results Tryz.f10 tmps).run Tryz.prog W = .ok (.agg #[x, y, z]) W := by
  simp only [Array.getD_eq_getD_getElem?] at h4
  have c0 : W.cell? ⟨b, 0, none⟩ = some x := by rw [Lib.cell_of_heap hb]; rfl
  have c1 : W.cell? ⟨b, 1, none⟩ = some y := by rw [Lib.cell_of_heap hb]; rfl
  have c2 : W.cell? ⟨b, 2, none⟩ = some z := by rw [Lib.cell_of_heap hb]; rfl
  simp [results, Tryz.results10, go_sem, h4, c0, c1, c2]
theorem tree_nodes {W : World} {b g : Nat} (hD : W.heap[b]? = some (.cells #[.int .u8 49] 5 (1, 2))) (hE : W.heap[b + 1]? = some (.cells #[.int .u8 50, .int .u8 50] 5 (2, 3)))
    (hN : W.heap[g]? = some (.cells #[.string { data := #[97] }, .bool false, .int .i64 1, .slice (some ⟨b, 0, none⟩) 1 1, .string { data := #[98] }, .bool false, .int .i64 2, .slice (some ⟨b + 1, 0, none⟩) 2 2, .string { data := #[100] }, .bool true, .int .i64 3, .slice none 0 0] 35 (0, 0))) : Nodes W (.slice (some ⟨g, 0, none⟩) 3 3) (tns b) := by
  refine .inr ⟨g, 0, 3, rfl, Nat.le_refl _, ⟨lt_of_block hN, fun i n hi => ?_, fun i n hi => ?_, fun i n hi => ?_, fun i n hi => ?_⟩, fun n hn => ?_⟩
  · rcases i with _ | _ | _ | i
    · cases hi; rw [Lib.cell_of_heap hN]; rfl
    · cases hi; rw [Lib.cell_of_heap hN]; rfl
    · cases hi; rw [Lib.cell_of_heap hN]; rfl
    · simp [tns] at hi
  · rcases i with _ | _ | _ | i
    · cases hi; rw [Lib.cell_of_heap hN]; rfl
    · cases hi; rw [Lib.cell_of_heap hN]; rfl
    · cases hi; rw [Lib.cell_of_heap hN]; rfl
    · simp [tns] at hi
  · rcases i with _ | _ | _ | i
    · cases hi; rw [Lib.cell_of_heap hN]; rfl
    · cases hi; rw [Lib.cell_of_heap hN]; rfl
    · cases hi; rw [Lib.cell_of_heap hN]; rfl
    · simp [tns] at hi
  · rcases i with _ | _ | _ | i
    · cases hi; rw [Lib.cell_of_heap hN]; rfl
    · cases hi; rw [Lib.cell_of_heap hN]; rfl
    · cases hi; rw [Lib.cell_of_heap hN]; rfl
    · simp [tns] at hi
  · simp only [tns, List.mem_cons, List.not_mem_nil, or_false] at hn
    rcases hn with rfl | rfl | rfl
    · refine .inr ⟨⟨b, 0, none⟩, 1, rfl, fun _ => lt_of_block hD, fun j u hj => ?_⟩
      rw [add_zero]
      rcases j with _ | j
      · cases hj; rw [Lib.cell_of_heap hD]; rfl
      · simp [Lib.byteCells] at hj
    · refine .inr ⟨⟨b + 1, 0, none⟩, 2, rfl, fun _ => lt_of_block hE, fun j u hj => ?_⟩
      rw [add_zero]
      rcases j with _ | _ | j
      · cases hj; rw [Lib.cell_of_heap hE]; rfl
      · cases hj; rw [Lib.cell_of_heap hE]; rfl
      · simp [Lib.byteCells] at hj
    · exact .inl ⟨rfl, rfl⟩
set_option maxRecDepth 100000 in
set_option maxHeartbeats 4000000 in
theorem tree_any (w : World) : Calls Tryz.prog 10 #[] w fun r w' => ∃ v n, r = .returned (.agg #[v, .int .i64 3, .int .i64 60000]) ∧ Nodes w' v (tns n) ∧ Below w.heap.size w w' := by
  have hcv := Lib.run_convert_bytes_const (P := Tryz.prog) (w.alloc (.cells #[.slice none 0 0, .int .i64 0, .int .i64 0] 28)) 33 5 #[.int .u8 49] 1 1 Tryz.underlying33 Tryz.underlying5
  have hcv2 := Lib.run_convert_bytes_const (P := Tryz.prog) ((w.alloc (.cells #[.slice none 0 0, .int .i64 0, .int .i64 0] 28)).alloc (.cells #[.int .u8 49] 5 (1, 2))) 33 5 #[.int .u8 50, .int .u8 50] 2 2 Tryz.underlying33 Tryz.underlying5
  simp only [size_alloc'] at hcv hcv2
  go_enter Tryz.func10, Tryz.ntmps10
  go_wp2
  obtain ⟨a1, a2, a3, a4⟩ := four_alloc w (.cells #[.slice (some ⟨w.heap.size + 1 + 1 + 1, 0, none⟩) 3 3, .int .i64 3, .int .i64 60000] 28) (.cells #[.int .u8 49] 5 (1, 2)) (.cells #[.int .u8 50, .int .u8 50] 5 (2, 3)) (.cells #[.string { data := #[97] }, .bool false, .int .i64 1, .slice (some ⟨w.heap.size + 1, 0, none⟩) 1 1, .string { data := #[98] }, .bool false, .int .i64 2, .slice (some ⟨w.heap.size + 1 + 1, 0, none⟩) 2 2, .string { data := #[100] }, .bool true, .int .i64 3, .slice none 0 0] 35)
  refine bodyPost_ret (res10 _ _ _ _ _ _ rfl a1) rfl ?_
  exact ⟨_, _, rfl, tree_nodes a2 a3 a4, ((((Below.refl _ _).alloc (Nat.le_refl _) _).alloc (by simp) _).alloc (by simp; omega) _).alloc (by simp; omega) _⟩
end Go.Proofs.YtbfchadcpokjoaaGreatDoor
namespace Go.Proofs.YtbfchadcpokjoaaGreatDoor
open Go.RowKit Go.Maps

set_option maxHeartbeats 1000000 in
set_option maxRecDepth 100000 in
theorem res9 (tmps : Array Value) (b : Nat) (s i d x y z : Value) (W : World) (h6 : tmps.getD 6 undef = s) (h7 : tmps.getD 7 undef = i) (h8 : tmps.getD 8 undef = d) (h9 : tmps.getD 9 undef = .pointer (some ⟨b, 0, none⟩)) (hb : W.heap[b]? = some (.cells #[x, y, z] 28 (0, 0))) : (results Tryz.f9 tmps).run Tryz.prog W = .ok (.tuple #[s, i, d, .agg #[x, y, z]]) W := by
  simp only [Array.getD_eq_getD_getElem?] at h6 h7 h8 h9
  have c0 : W.cell? ⟨b, 0, none⟩ = some x := by rw [Lib.cell_of_heap hb]; rfl
  have c1 : W.cell? ⟨b, 1, none⟩ = some y := by rw [Lib.cell_of_heap hb]; rfl
  have c2 : W.cell? ⟨b, 2, none⟩ = some z := by rw [Lib.cell_of_heap hb]; rfl
  simp [results, Tryz.results9, go_sem, h6, h7, h8, h9, c0, c1, c2]
theorem IsFs.shrink {w : World} {S : Nat → Prop} {A : Nat} {T : Tr} {clk rm : Int} (h : IsFs w S A T clk rm) : IsFs w (fun i => S i ∧ i < w.heap.size) A T clk rm := by
  obtain ⟨⟨M, L, hF, hO, hL⟩, a, b, c, d⟩ := h
  exact ⟨⟨M, L, hF, ⟨⟨hO.sA, hF.fb.lt⟩, ⟨hO.sM, hF.mp.lt⟩, fun e he => ⟨hO.sB e he, (hF.nodes e he).lt⟩, fun e he g hg => ⟨hO.sD e he g hg, (hO.dat e he).lt g hg⟩, hO.dat, hO.apB, hO.apD⟩, hL⟩, a, b, c, d⟩
theorem NsAt.keep {w w' : World} {b : Nat} {v : Value} {ns : List Nv} (h : NsAt w b v ns) (hk : ∀ j, b ≤ j → w'.heap[j]? = w.heap[j]?) : NsAt w' b v ns := by
  refine ⟨?_, fun n hn => (h.dat n hn).kept fun g hg => hk g (h.hi n hn g hg), h.hi⟩
  rcases h.row with h1 | ⟨g, cap, cur, rfl, h2, hg, r⟩
  · exact .inl h1
  · exact .inr ⟨g, cap, cur, rfl, h2, (hk g h2).trans hg, r⟩
/-- how a utility leaves its call and its tree -/
def UtOk (b : Nat) (w : World) (G : Nat) (rm : Int) (Q : Int → Bs → Tr → Int → Prop) (a : Option Addr) (n : Nat) (st : Int) (W : World) : Prop := ∃ ob T' clk' S', Rds W (.slice a n n) ob ∧ IsFs W S' G T' clk' rm ∧ Below b w W ∧ Q st ob T' clk'
structure LrC (a : Option Addr) (n : Nat) (ob : Bs) (w : World) : Prop where
  cv : (convert 33 9 (.slice a n n)).run Tryz.prog w = .ok (.string (mk ob)) w
set_option maxRecDepth 100000 in
set_option maxHeartbeats 4000000 in
theorem lrun_any (B : Nat) (E : Addr) (v : Value) (ns : List Nv) (clk rm : Int) (T : Tr) (w : World) (h : Nodes w v ns) (hG : Glo B w E) (hB : B ≤ w.heap.size) (hps : ∀ n ∈ ns, n.path.length ≤ 400000) (hT : newR ns clk rm = .inr T)
    (av : Value) (x : Bs) (L : List Bs) (k : Nat) (hk : utOf x = some k) (hcf : ∀ (xs : Array Value) (W : World), (callFunc k xs).run Tryz.prog W = .ok (.enter k xs) W) (hl : L.length ≤ 100000) (hv : Txs w av (x :: L)) (inn : Bs) (Q : Int → Bs → Tr → Int → Prop)
    (hq : ∀ (V W : World) (G C b : Nat) (y iv : Value), w.heap.size ≤ b → Below w.heap.size w W → IsFs W (fun i => b ≤ i ∧ i < C) G T clk rm → Glo B W E → b ≤ C → V.heap.size ≤ C → Below V.heap.size V W → CallAt W C (.pointer (some ⟨G, 0, none⟩)) y iv (.slice none 0 0) → Txs V y L →
      Calls Tryz.prog k #[.pointer (some ⟨C, 0, none⟩)] W fun r w' => ∃ st a n cap, r = .returned (.int .i64 st) ∧ n ≤ cap ∧ w'.cell? ⟨C, 3, none⟩ = some (.slice a n cap) ∧ UtOk b W G rm Q a n st w') :
    Calls Tryz.prog 9 #[.agg #[v, .int .i64 clk, .int .i64 rm], av, .string (mk inn)] w fun r w' => ∃ ob st tv clk' ns', r = .returned (.tuple #[.string (mk ob), .int .i64 st, .bool true, .agg #[tv, .int .i64 clk', .int .i64 rm]]) ∧ Nodes w' tv ns' ∧ Q st ob (ns'.map toE) clk' ∧ Below w.heap.size w w' := by
  obtain ⟨va, vc, hvv⟩ := h.len
  subst hvv
  obtain ⟨W0, hW0⟩ : ∃ W0, W0 = (w.alloc (.cells #[.slice va ns.length vc, .int .i64 clk, .int .i64 rm] 28)).alloc (.cells #[.slice none 0 0, .int .i64 0, .int .i64 0] 28) := ⟨_, rfl⟩
  have hb0 : Below w.heap.size w W0 := by rw [hW0]; exact ((Below.refl _ _).alloc (Nat.le_refl _) _).alloc (by simp) _
  have hs0 : W0.heap.size = w.heap.size + 1 + 1 := by rw [hW0]; simp
  have qn := New_any B E (.slice va ns.length vc) ns clk rm W0 (h.below hb0) (hG.keep (hb0.mono hB)) (by omega) hps
  rw [hT] at qn
  have HN := hide' qn
  have HQ := hide' hq
  have HG := hide' hG
  have HV := hide' hv
  have z9 : W0.heap[w.heap.size + 1]? = some (.cells #[.slice none 0 0, .int .i64 0, .int .i64 0] 28 (0, 0)) := by
    have := alloc_new (w.alloc (.cells #[.slice va ns.length vc, .int .i64 clk, .int .i64 rm] 28)) (.cells #[.slice none 0 0, .int .i64 0, .int .i64 0] 28)
    rw [hW0]; simpa using this
  have Z9 := hide' z9
  have HB0 := hide' hb0
  clear h hG hv hq qn z9 hb0 hT hps
  go_enter Tryz.func9, Tryz.ntmps9
  go_wp2_with fail
  rw [← hW0]
  refine HN.out.mono ?_
  rintro r w1 ⟨hb1, G, rfl, hfs⟩
  have hnil : ∀ w : World, (binOp .eql 36 (.pointer (some ⟨G, 0, none⟩)) (.pointer none)).run Tryz.prog w = .ok (.bool false) w := fun w => by kernel_rfl
  have hB1 : Below w.heap.size w w1 := HB0.out.trans (hb1.mono (by omega))
  have hs1 := hb1.size
  obtain ⟨hcv, hb2⟩ := conv_new w1 inn
  obtain ⟨W2, hW2⟩ : ∃ W2, W2 = Lib.bytesWorld w1 5 (mk inn) := ⟨_, rfl⟩
  obtain ⟨ic, hic⟩ : ∃ ic, ic = grownCap w1 inn.length 0 5 := ⟨_, rfl⟩
  rw [← hW2] at hcv hb2
  rw [← hic] at hcv
  have hB2 : Below w.heap.size w W2 := hB1.trans (hb2.mono (by omega))
  have hs2 := hb2.size
  have hf2 := (hfs.shrink.mono (S' := fun i => w.heap.size + 1 < i ∧ i < W2.heap.size) fun i hi => ⟨by have := hi.1; omega, Nat.lt_of_lt_of_le hi.2 hs2⟩).below hb2
  have hZ2 : W2.heap[w.heap.size + 1]? = some (.cells #[.slice none 0 0, .int .i64 0, .int .i64 0] 28 (0, 0)) := (hb2.block _ (by omega)).trans ((hb1.block _ (by omega)).trans Z9.out)
  have q := run_any W2 ⟨G, 0, none⟩ (some ⟨w1.heap.size, 0, none⟩) inn.length ic av x L k hk hcf hl (HV.out.below hB2 (Nat.le_refl _)) (fun a n st W => UtOk (w.heap.size + 2) W2 G rm Q a n st W) (fun W C y hb hC hC1 hcl hy => by
    have hBW : Below w.heap.size w W := hB2.trans (hb.mono hB2.size)
    exact (HQ.out W2 W G C (w.heap.size + 2) y _ (by omega) hBW ((hf2.mono fun i hi => ⟨by omega, Nat.lt_of_lt_of_le hi.2 hC⟩).below hb) (HG.out.keep (hBW.mono hB)) (by omega) hC hb hcl hy).mono (by
      rintro r w' ⟨st, a, n, cap, h1, h2, h3, ob, T', clk', S', h4, h5, h6, h7⟩
      exact ⟨st, a, n, cap, h1, h2, h3, ob, T', clk', S', h4, h5, (hb.mono (by omega)).trans h6, h7⟩))
  have HR := hide' q
  have HB2 := hide' hB2
  have HZ2 := hide' hZ2
  clear q hB2 hZ2 hf2 hb2 hfs hb1 hB1 HN HQ HG HV Z9
  go_wp2_with (go_at_call 12; refine (lnum_any _ _).mono ?_; rintro r w6 ⟨rfl, rfl⟩)
  rw [← hW2, ← hic]
  refine HR.out.mono ?_
  rintro r w3 ⟨st, a3, n3, w0, rfl, ⟨ob, T', clk', S', hr3, hf3, hb3, hQ3⟩, m, rfl⟩
  clear HR hcv
  have hd0 : Below w0.heap.size w0 (w0.drewN m).drew := below_drewn (B := w0.heap.size) (w := w0) (m + 1)
  obtain ⟨W4, hW4⟩ : ∃ W4, W4 = (w0.drewN m).drew := ⟨_, rfl⟩
  rw [← hW4] at hd0
  have hR4 : Rds W4 (.slice a3 n3 n3) ob := hr3.below hd0
  have hC4 : LrC a3 n3 ob W4 := ⟨rds_str hR4⟩
  have qt := Tree_any G T' clk' rm S' W4 (hf3.below hd0)
  have hs3 := hb3.size
  have hs4 := hd0.size
  have hB4 : Below w.heap.size w W4 := HB2.out.trans ((hb3.mono (by omega)).trans (hd0.mono (by omega)))
  have hZ4 : W4.heap[w.heap.size + 1]? = some (.cells #[.slice none 0 0, .int .i64 0, .int .i64 0] 28 (0, 0)) := (hd0.block _ (by omega)).trans ((hb3.block _ (by omega)).trans HZ2.out)
  have HC := hide' hC4
  have HR4 := hide' hR4
  have HT := hide' qt
  have HB4 := hide' hB4
  have HZ4 := hide' hZ4
  have HQ3 := hide' hQ3
  clear hC4 hR4 qt hB4 hZ4 hQ3 hf3 hb3 hd0 hr3 HB2 HZ2
  go_upto_region 5 with fail
  refine wp_region_classX [9] (C := LrC a3 n3 ob) (by kernel_rfl) ?_
  rw [← hW4]
  clear hW4
  (refine wpAnyX_take (i := 0) (v := ?_) HC.out rfl (by kernel_rfl) (by kernel_rfl) (by kernel_rfl) (by kernel_rfl) (fun _ _ _ h => h) (Or.inl ⟨by kernel_rfl, ?_⟩) ?_; rotate_left; (intro w hc; have k0 := hc.cv; clear hc; go_simp; try with_reducible rfl))
  (refine wpAnyX_take (i := 1) (v := ?_) HC.out rfl (by kernel_rfl) (by kernel_rfl) (by kernel_rfl) (by kernel_rfl) (fun _ _ _ h => h) (Or.inl ⟨by kernel_rfl, ?_⟩) ?_; rotate_left; (intro w hc; have k0 := hc.cv; clear hc; go_simp; try with_reducible rfl))
  (refine wpAnyX_take (i := 2) (v := ?_) HC.out rfl (by kernel_rfl) (by kernel_rfl) (by kernel_rfl) (by kernel_rfl) (fun _ _ _ h => h) (Or.inl ⟨by kernel_rfl, ?_⟩) ?_; rotate_left; (intro w hc; have k0 := hc.cv; clear hc; go_simp; try with_reducible rfl))
  (refine wpAnyX_take (i := 3) (v := ?_) HC.out rfl (by kernel_rfl) (by kernel_rfl) (by kernel_rfl) (by kernel_rfl) (fun _ _ _ h => h) (Or.inl ⟨by kernel_rfl, ?_⟩) ?_; rotate_left; (intro w hc; have k0 := hc.cv; clear hc; go_simp; try with_reducible rfl))
  (refine wpAnyX_take (i := 4) (v := ?_) HC.out rfl (by kernel_rfl) (by kernel_rfl) (by kernel_rfl) (by kernel_rfl) (fun _ _ _ h => h) (Or.inl ⟨by kernel_rfl, ?_⟩) ?_; rotate_left; (intro w hc; have k0 := hc.cv; clear hc; go_simp; try with_reducible rfl))
  go_simp
  refine wpAnyX_one (i := 5) (by kernel_rfl) (wpOp_wanted rfl (by rfl) ?_)
  go_simp
  refine HT.out.mono ?_
  rintro r w5 ⟨⟨tv, ns', rfl, hns, hT'⟩, hb5⟩
  obtain ⟨ta, tc, htv⟩ := hns.nodes.len
  subst htv
  have hC5 : LrC a3 n3 ob w5 := ⟨rds_str (HR4.out.below hb5)⟩
  refine ⟨hC5, ?_⟩
  have HC5 := hide' hC5
  clear hC5
  refine wpAnyX_one (i := 6) (by kernel_rfl) (wpOp_wanted rfl (by rfl) ?_)
  go_simp
  refine ⟨HC5.out, ?_⟩
  refine wpAnyX_one (i := 7) (by kernel_rfl) (wpOp_wanted rfl (by rfl) ?_)
  go_simp
  refine ⟨HC5.out, ?_⟩
  refine wpAnyX_one (i := 8) (by kernel_rfl) (wpOp_wanted rfl (by rfl) ?_)
  go_simp
  refine ⟨HC5.out, ?_⟩
  have hZ5 : w5.heap[w.heap.size + 1]? = some (.cells #[.slice none 0 0, .int .i64 0, .int .i64 0] 28 (0, 0)) := (hb5.block _ (by omega)).trans HZ4.out
  have y0 : w5.cell? ⟨w.heap.size + 1, 0, none⟩ = some (.slice none 0 0) := by rw [Lib.cell_of_heap hZ5]; rfl
  have y1 : w5.cell? ⟨w.heap.size + 1, 1, none⟩ = some (.int .i64 0) := by rw [Lib.cell_of_heap hZ5]; rfl
  have y2 : w5.cell? ⟨w.heap.size + 1, 2, none⟩ = some (.int .i64 0) := by rw [Lib.cell_of_heap hZ5]; rfl
  have f0 := Lib.frozen_of_heap hZ5 0
  have f1 := Lib.frozen_of_heap hZ5 1
  have f2 := Lib.frozen_of_heap hZ5 2
  refine wpAnyX_one (i := 9) (by kernel_rfl) (wpOp_wanted rfl (by rfl) ?_)
  go_simp
  refine wpAnyX_done (by kernel_rfl) ?_ _
  obtain ⟨W6, hW6⟩ : ∃ W6, W6 = ((w5.setCell ⟨w.heap.size + 1, 0, none⟩ (.slice ta ns'.length tc)).setCell ⟨w.heap.size + 1, 1, none⟩ (.int .i64 clk')).setCell ⟨w.heap.size + 1, 2, none⟩ (.int .i64 rm) := ⟨_, rfl⟩
  rw [← hW6]
  have hZ6 : W6.heap[w.heap.size + 1]? = some (.cells #[.slice ta ns'.length tc, .int .i64 clk', .int .i64 rm] 28 (0, 0)) := by
    rw [hW6]; exact set_row (set_row (set_row hZ5 0 _) 1 _) 2 _
  have hk6 : ∀ j, j ≠ w.heap.size + 1 → W6.heap[j]? = w5.heap[j]? := fun j hj => by
    rw [hW6]
    exact (Below.heap_setCell _ ⟨w.heap.size + 1, 2, none⟩ _ j (by simpa using hj)).trans ((Below.heap_setCell _ ⟨w.heap.size + 1, 1, none⟩ _ j (by simpa using hj)).trans (Below.heap_setCell _ ⟨w.heap.size + 1, 0, none⟩ _ j (by simpa using hj)))
  have hB5 : Below w.heap.size w w5 := HB4.out.trans (hb5.mono (by omega))
  have hB6 : Below w.heap.size w W6 := by
    rw [hW6]
    exact ((hB5.setCell (p := ⟨w.heap.size + 1, 0, none⟩) (by simp) _).setCell (p := ⟨w.heap.size + 1, 1, none⟩) (by simp) _).setCell (p := ⟨w.heap.size + 1, 2, none⟩) (by simp) _
  have hn6 : Nodes W6 (.slice ta ns'.length tc) ns' := (hns.keep fun j hj => hk6 j (by omega)).nodes
  clear hW6 y0 y1 y2 f0 f1 f2 hZ5 hk6 hB5
  go_wp2_with fail
  refine bodyPost_ret (res9 _ (w.heap.size + 1) _ _ _ _ _ _ _ rfl rfl rfl rfl hZ6) rfl ?_
  exact ⟨ob, st, _, clk', ns', rfl, hn6, by rw [hT']; exact HQ3.out, hB6⟩
end Go.Proofs.YtbfchadcpokjoaaGreatDoor
namespace Go.Proofs.YtbfchadcpokjoaaGreatDoor
open Go.RowKit Go.Maps

theorem cf53 (xs : Array Value) (W : World) : (callFunc 53 xs).run Tryz.prog W = .ok (.enter 53 xs) W := by kernel_rfl
theorem cf54 (xs : Array Value) (W : World) : (callFunc 54 xs).run Tryz.prog W = .ok (.enter 54 xs) W := by kernel_rfl
theorem tns_len (n : Nat) : ∀ m ∈ tns n, m.path.length ≤ 400000 := by
  intro m hm
  simp only [tns, List.mem_cons, List.not_mem_nil, or_false] at hm
  rcases hm with rfl | rfl | rfl <;> simp
/-- a utility that prints nothing and leaves the tree as it was -/
theorem mute {W w' : World} {G C : Nat} {T : Tr} {clk rm : Int} {S : Nat → Prop} {fv y iv : Value} {st : Int} {Q : Int → Bs → Tr → Int → Prop} (hC : CallAt W C fv y iv (.slice none 0 0)) (hf : IsFs W S G T clk rm) (hb : Below W.heap.size W w') {b : Nat} (hbC : b ≤ C) (hQ : Q st [] T clk) :
    ∃ st' a n cap, Ending.returned (.int .i64 st) = .returned (.int .i64 st') ∧ n ≤ cap ∧ w'.cell? ⟨C, 3, none⟩ = some (.slice a n cap) ∧ UtOk b W G rm Q a n st' w' := by
  have h3 : w'.cell? ⟨C, 3, none⟩ = some (.slice none 0 0) := by
    rw [Lib.cell_of_heap ((hb.block C (lt_of_block hC)).trans hC)]; rfl
  exact ⟨st, none, 0, 0, rfl, Nat.le_refl _, h3, [], T, clk, S, .inl ⟨rfl, rfl⟩, hf.below hb, hb.mono (by have := lt_of_block hC; omega), hQ⟩
theorem lrun_test (B n : Nat) (E : Addr) (v av : Value) (a t b : Bs) (st : Int) (w : World) (h : Nodes w v (tns n)) (hG : Glo B w E) (hB : B ≤ w.heap.size) (hv : Txs w av [[116, 101, 115, 116], a, t, b])
    (hq : ∀ (cv : Value) (W : World), Calls Tryz.prog 158 #[cv, .string (mk a), .string (mk t), .string (mk b)] W fun r w' => r = .returned (.tuple #[.int .i64 st, .bool true]) ∧ Below W.heap.size W w') :
    Calls Tryz.prog 9 #[.agg #[v, .int .i64 3, .int .i64 60000], av, .string (mk [])] w fun r w' => ∃ s ta tn tc ck, r = .returned (.tuple #[.string s, .int .i64 st, .bool true, .agg #[.slice ta tn tc, .int .i64 ck, .int .i64 60000]]) ∧ Below w.heap.size w w' := by
  refine (lrun_any B E v (tns n) 3 60000 treeT w h hG hB (tns_len n) (newR_tns n) av [116, 101, 115, 116] [a, t, b] 53 rfl cf53 (by simp) hv [] (fun s _ _ _ => s = st) (fun V W G C n0 y iv hwb hb hf hG2 hC hVC hVb hcl hyV => ?_)).mono ?_
  · have hy := hyV.below hVb (Nat.le_refl _)
    refine (test_any C _ y _ _ st W hcl (expr_three _ y a t b st W hy (hq _))).mono ?_
    rintro r w' ⟨rfl, hb'⟩
    exact mute hcl hf hb' hC rfl
  · rintro r w' ⟨ob, st', tv, clk', ns', rfl, hns, rfl, hb⟩
    obtain ⟨ta, tc, rfl⟩ := hns.len
    exact ⟨_, _, _, _, _, rfl, hb⟩
theorem lrun_not (B n : Nat) (E : Addr) (v av : Value) (a t b : Bs) (st : Int) (w : World) (h : Nodes w v (tns n)) (hG : Glo B w E) (hB : B ≤ w.heap.size) (hv : Txs w av [[91], [33], a, t, b, [93]])
    (hq : ∀ (cv : Value) (W : World), Calls Tryz.prog 158 #[cv, .string (mk a), .string (mk t), .string (mk b)] W fun r w' => r = .returned (.tuple #[.int .i64 st, .bool true]) ∧ Below W.heap.size W w') :
    Calls Tryz.prog 9 #[.agg #[v, .int .i64 3, .int .i64 60000], av, .string (mk [])] w fun r w' => ∃ s ta tn tc ck, r = .returned (.tuple #[.string s, .int .i64 (if st = 0 then 1 else if st = 1 then 0 else st), .bool true, .agg #[.slice ta tn tc, .int .i64 ck, .int .i64 60000]]) ∧ Below w.heap.size w w' := by
  refine (lrun_any B E v (tns n) 3 60000 treeT w h hG hB (tns_len n) (newR_tns n) av [91] [[33], a, t, b, [93]] 54 rfl cf54 (by simp) hv [] (fun s _ _ _ => s = if st = 0 then 1 else if st = 1 then 0 else st) (fun V W G C n0 y iv hwb hb hf hG2 hC hVC hVb hcl hyV => ?_)).mono ?_
  · have hy := hyV.below hVb (Nat.le_refl _)
    refine (bracket_any C _ y _ _ [[33], a, t, b] _ W hcl (by simp) hy (fun v' hv' => expr_not _ v' a t b st W hv' (hq _))).mono ?_
    rintro r w' ⟨rfl, hb'⟩
    exact mute hcl hf hb' hC rfl
  · rintro r w' ⟨ob, st', tv, clk', ns', rfl, hns, rfl, hb⟩
    obtain ⟨ta, tc, rfl⟩ := hns.len
    exact ⟨_, _, _, _, _, rfl, hb⟩
end Go.Proofs.YtbfchadcpokjoaaGreatDoor
