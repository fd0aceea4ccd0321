/- The contract of the reference's Rename. The contract of the reference's Rename where a file goes to its new name. -/
import Derived.Test.YtpbfhbnkalambaaGreatDoorZv
namespace Go.Proofs.YtpbfhbnkalambaaGreatDoor
open Go.RowKit Go.Maps

theorem del_twice {α : Type} (L : List (Bs × α)) (p : Bs) : del (del L p) p = del L p := del_none (fnd_del_same L p)
set_option maxRecDepth 100000 in
set_option maxHeartbeats 4000000 in
/-- the first name is at fault -/
theorem rrename_p (S : Nat → Prop) (R : Nat) (v : Value) (ns : List Nv) (clk rm : Int) (P Q : ByteArray) (w : World) (h : RGd w S R v ns clk rm) (hP : P.size ≤ 300000) (m : Nat) (hk0 : (fileN (lookN (ns.map toE) (clean (tl P))) = .non ∧ m = 10) ∨ fileN (lookN (ns.map toE) (clean (tl P))) = .bad m) :
    Calls Tryz.prog 44 #[.pointer (some ⟨R, 0, none⟩), .string P, .string Q] w fun r w' => RfOut S R rm w r w' (m, ns.map toE, clk) := by
  obtain ⟨va, vc, hv⟩ := h.at_.row.len
  subst hv
  have q := rlook_any R _ ns clk rm P w h.at_.rb h.at_.nodes h.gd.srt h.len hP
  generalize clean (tl P) = c at q hk0
  have H := hide' h
  have hln := h.len
  clear h
  go_enter Tryz.func44, Tryz.ntmps44
  go_wp2_with fail
  refine q.mono ?_
  rintro e w1 ⟨hb1, k, er, rfl, hm⟩
  clear q
  have HB1 := hide' hb1
  have HE := hide' (rf_same H.out HB1.out m)
  clear hb1
  cases hk : lookN (ns.map toE) c with
  | bad m' =>
    have hm0 := lookN_bad hk
    rw [hk] at hm hk0
    obtain ⟨rfl, rfl⟩ := hm
    have e1 : m' = m := by
      rcases hk0 with ⟨h1, _⟩ | h1
      · cases h1
      · simpa [fileN] using h1
    subst e1
    have h1 : ((m' : Int) == 0) = false := beq_eq_false_iff_ne.2 (by omega)
    have h2 : ¬ (m' : Int) = 0 := by omega
    clear hk hm0 hk0
    dsimp only
    go_wp2_with fail
    refine bodyPost_ret (v := .int .i64 m') (by simp [results, Tryz.results44, go_sem]) rfl ?_
    exact HE.out
  | non =>
    rw [hk] at hm hk0
    obtain ⟨rfl, rfl⟩ := hm
    have e1 : m = 10 := by
      rcases hk0 with ⟨_, h1⟩ | h1
      · exact h1
      · cases h1
    subst e1
    clear hk hk0
    dsimp only
    go_wp2_with fail
    refine bodyPost_ret (v := .int .i64 10) (by simp [results, Tryz.results44, go_sem]) rfl ?_
    exact HE.out
  | rt =>
    rw [hk] at hm hk0
    obtain ⟨rfl, rfl⟩ := hm
    have e1 : m = 12 := by
      rcases hk0 with ⟨h1, _⟩ | h1
      · cases h1
      · simp [fileN] at h1; omega
    subst e1
    clear hk hk0
    dsimp only
    go_wp2_with fail
    refine bodyPost_ret (v := .int .i64 12) (by simp [results, Tryz.results44, go_sem]) rfl ?_
    exact HE.out
  | is x =>
    rw [hk] at hm hk0
    obtain ⟨rfl, i, n, rfl, hi, hp, rfl⟩ := hm
    cases hd : n.nd.dir with
    | false => simp [fileN, hd] at hk0
    | true =>
      have e1 : m = 12 := by
        rcases hk0 with ⟨h1, _⟩ | h1
        · simp [fileN, hd] at h1
        · simp [fileN, hd] at h1; omega
      subst e1
      have hil := (List.getElem?_eq_some_iff.1 hi).1
      have hR1 := (H.out.below HB1.out).at_
      have c0 := hR1.rb.cells
      rcases hR1.nodes with ⟨_, e0⟩ | ⟨g2, o2, cap2, hv2, hc2, hrow, -⟩
      · rw [e0] at hi
        simp at hi
      · cases hv2
        have c1 := hrow.c1 i n hi
        rw [hd] at c1
        have ki : (i : Int) < ns.length := by omega
        have ki3 : ((i : Int) == -2) = false := beq_eq_false_iff_ne.2 (by omega)
        have ki4 : ¬ (i : Int) = -2 := by omega
        have ki5 : (0 : Int) ≤ (i : Int) := by omega
        have ki6 : ¬ (i : Int) < 0 := by omega
        clear hk hi hp hd hrow hR1 hk0
        dsimp only
        go_wp2_with fail
        refine bodyPost_ret (v := .int .i64 12) (by simp [results, Tryz.results44, go_sem]) rfl ?_
        exact HE.out
/-- how the first look goes on -/
structure FirstAt (w1 : World) (R g vc i : Nat) (ns : List Nv) (n : Nv) : Prop where
  c0 : w1.cell? ⟨R, 0, none⟩ = some (.slice (some ⟨g, 0, none⟩) ns.length vc)
  c1 : w1.cell? ⟨g, i * 4 + 1, none⟩ = some (.bool n.nd.dir)
theorem row_some {w : World} {S : Nat → Prop} {R : Nat} {va : Option Addr} {vc : Nat} {ns : List Nv} {clk rm : Int} (h : RfAt w S R (.slice va ns.length vc) ns clk rm) {i : Nat} {n : Nv} (hi : ns[i]? = some n) : ∃ g, va = some ⟨g, 0, none⟩ := by
  rcases h.row with ⟨_, e0⟩ | ⟨g, cap, cur, e, _⟩
  · rw [e0] at hi; simp at hi
  · cases e; exact ⟨g, rfl⟩
theorem row_cells4 {w : World} {S : Nat → Prop} {R g : Nat} {vc : Nat} {ns : List Nv} {clk rm : Int} (h : RfAt w S R (.slice (some ⟨g, 0, none⟩) ns.length vc) ns clk rm) {i : Nat} {n : Nv} (hi : ns[i]? = some n) :
    w.cell? ⟨g, i * 4, none⟩ = some (.string (mk n.path)) ∧ w.cell? ⟨g, i * 4 + 1, none⟩ = some (.bool n.nd.dir) ∧ w.cell? ⟨g, i * 4 + 2, none⟩ = some (.int .i64 n.nd.time) ∧ w.cell? ⟨g, i * 4 + 3, none⟩ = some n.dv := by
  rcases h.row with ⟨e0, _⟩ | ⟨g', cap, cur, e, hg, h1, h2, h4⟩
  · cases e0
  · cases e
    exact ⟨cell_row (r := 0) hg h4 hi (by omega) rfl, cell_row (r := 1) hg h4 hi (by omega) rfl, cell_row (r := 2) hg h4 hi (by omega) rfl, cell_row (r := 3) hg h4 hi (by omega) rfl⟩
set_option maxRecDepth 100000 in
set_option maxHeartbeats 4000000 in
/-- the second name is at fault, or both are one -/
theorem rrename_q (S : Nat → Prop) (R : Nat) (v : Value) (ns : List Nv) (clk rm : Int) (P Q : ByteArray) (w : World) (h : RGd w S R v ns clk rm) (hP : P.size ≤ 300000) (hQ : Q.size ≤ 300000) (x : Nd) (hk : lookN (ns.map toE) (clean (tl P)) = .is x) (hdx : x.dir = false) (m : Nat) (hk0 : (fileN (lookN (ns.map toE) (clean (tl Q))) = .bad m) ∨ (clean (tl P) = clean (tl Q) ∧ m = 0)) :
    Calls Tryz.prog 44 #[.pointer (some ⟨R, 0, none⟩), .string P, .string Q] w fun r w' => RfOut S R rm w r w' (m, ns.map toE, clk) := by
  obtain ⟨va, vc, hv⟩ := h.at_.row.len
  subst hv
  have q := rlook_any R _ ns clk rm P w h.at_.rb h.at_.nodes h.gd.srt h.len hP
  have q2 := fun w1 (hb : Below w.heap.size w w1) => rlook_any R _ ns clk rm Q w1 (h.below hb).at_.rb (h.below hb).at_.nodes h.gd.srt h.len hQ
  generalize clean (tl P) = c at q hk0 hk
  generalize clean (tl Q) = d at q2 hk0
  have H := hide' h
  have Q2 := hide' q2
  have hln := h.len
  clear h q2
  go_enter Tryz.func44, Tryz.ntmps44
  go_wp2_with fail
  refine q.mono ?_
  rintro e w1 ⟨hb1, k, er, rfl, hm⟩
  clear q
  have HB1 := hide' hb1
  clear hb1
  rw [hk] at hm
  obtain ⟨rfl, i, n, rfl, hi, hp, rfl⟩ := hm
  have hR1 := (H.out.below HB1.out).at_
  obtain ⟨g, rfl⟩ := row_some hR1 hi
  have c0 := hR1.rb.cells
  have c1 := (row_cells4 hR1 hi).2.1
  rw [hdx] at c1
  have hil := (List.getElem?_eq_some_iff.1 hi).1
  have ki : (i : Int) < ns.length := by omega
  have ki3 : ((i : Int) == -2) = false := beq_eq_false_iff_ne.2 (by omega)
  have ki4 : ¬ (i : Int) = -2 := by omega
  have ki6 : ¬ (i : Int) < 0 := by omega
  have qq := Q2.out w1 HB1.out
  clear hR1 Q2 hi hp
  dsimp only
  go_wp2_with fail
  refine qq.mono ?_
  rintro e w2 ⟨hb2, k, er, rfl, hm⟩
  have HB2 := hide' (HB1.out.trans (hb2.mono HB1.out.size))
  have HE := hide' (rf_same H.out HB2.out m)
  clear qq hb2 c0 c1
  cases hkq : lookN (ns.map toE) d with
  | bad m' =>
    have hm0 := lookN_bad hkq
    rw [hkq] at hm hk0
    obtain ⟨rfl, rfl⟩ := hm
    have e1 : m' = m := by
      rcases hk0 with h1 | ⟨h1, _⟩
      · simpa [fileN] using h1
      · rw [h1, hkq] at hk; cases hk
    subst e1
    have h1 : ((m' : Int) == 0) = false := beq_eq_false_iff_ne.2 (by omega)
    have h2 : ¬ (m' : Int) = 0 := by omega
    clear hkq hm0 hk0 hk
    dsimp only
    go_wp2_with fail
    refine bodyPost_ret (v := .int .i64 m') (by simp [results, Tryz.results44, go_sem]) rfl ?_
    exact HE.out
  | non =>
    rw [hkq] at hk0
    rcases hk0 with h1 | ⟨h1, _⟩
    · cases h1
    · rw [h1, hkq] at hk; cases hk
  | rt =>
    rw [hkq] at hm hk0
    obtain ⟨rfl, rfl⟩ := hm
    have e1 : m = 12 := by
      rcases hk0 with h1 | ⟨h1, _⟩
      · simp [fileN] at h1; omega
      · rw [h1, hkq] at hk; cases hk
    subst e1
    clear hkq hk0 hk
    dsimp only
    go_wp2_with fail
    refine bodyPost_ret (v := .int .i64 12) (by simp [results, Tryz.results44, go_sem]) rfl ?_
    exact HE.out
  | is y =>
    rw [hkq] at hm hk0
    obtain ⟨rfl, j, n2, rfl, hj, hp2, rfl⟩ := hm
    have hR2 := (H.out.below HB2.out).at_
    have c0 := hR2.rb.cells
    have c1 := (row_cells4 hR2 hj).2.1
    have hjl := (List.getElem?_eq_some_iff.1 hj).1
    have kj : (j : Int) < ns.length := by omega
    have kj3 : ((j : Int) == -2) = false := beq_eq_false_iff_ne.2 (by omega)
    have kj4 : ¬ (j : Int) = -2 := by omega
    have kj5 : (0 : Int) ≤ (j : Int) := by omega
    cases hd : n2.nd.dir with
    | true =>
      have e1 : m = 12 := by
        rcases hk0 with h1 | ⟨h1, _⟩
        · simp [fileN, hd] at h1; omega
        · rw [h1, hkq] at hk
          rw [Lk.is.inj hk, hdx] at hd
          cases hd
      subst e1
      rw [hd] at c1
      clear hkq hk0 hk hR2 hj hp2 hd
      dsimp only
      go_wp2_with fail
      refine bodyPost_ret (v := .int .i64 12) (by simp [results, Tryz.results44, go_sem]) rfl ?_
      exact HE.out
    | false =>
      obtain ⟨h1, h2⟩ : c = d ∧ m = 0 := by
        rcases hk0 with h1 | h1
        · simp [fileN, hd] at h1
        · exact h1
      subst h2
      rw [hd] at c1
      have e1 : (c == d) = true := beq_iff_eq.2 h1
      clear hkq hk0 hk hR2 hj hp2 hd h1
      dsimp only
      go_wp2_with fail
      refine bodyPost_ret (v := .int .i64 0) (by simp [results, Tryz.results44, go_sem]) rfl ?_
      exact HE.out
end Go.Proofs.YtpbfhbnkalambaaGreatDoor
namespace Go.Proofs.YtpbfhbnkalambaaGreatDoor
open Go.RowKit Go.Maps

set_option maxRecDepth 100000 in
set_option maxHeartbeats 4000000 in
theorem rrename_go (S : Nat → Prop) (R : Nat) (v : Value) (ns : List Nv) (clk rm : Int) (P Q : ByteArray) (w : World) (h : RGd w S R v ns clk rm) (hP : P.size ≤ 300000) (hQ : Q.size ≤ 300000) (x : Nd) (hk : lookN (ns.map toE) (clean (tl P)) = .is x) (hdx : x.dir = false) (hne : clean (tl P) ≠ clean (tl Q)) (hk0 : ∀ m, fileN (lookN (ns.map toE) (clean (tl Q))) ≠ .bad m) :
    Calls Tryz.prog 44 #[.pointer (some ⟨R, 0, none⟩), .string P, .string Q] w fun r w' => RfOut S R rm w r w' (0, put (del (ns.map toE) (clean (tl P))) (clean (tl Q)) x, clk + 1) := by
  obtain ⟨va, vc, hv⟩ := h.at_.row.len
  subst hv
  have q := rlook_any R _ ns clk rm P w h.at_.rb h.at_.nodes h.gd.srt h.len hP
  have q2 := fun w1 (hb : Below w.heap.size w w1) => rlook_any R _ ns clk rm Q w1 (h.below hb).at_.rb (h.below hb).at_.nodes h.gd.srt h.len hQ
  generalize clean (tl P) = c at q hk hne ⊢
  generalize clean (tl Q) = d at q2 hk0 hne ⊢
  have e1 : (c == d) = false := beq_eq_false_iff_ne.2 hne
  have H := hide' h
  have Q2 := hide' q2
  have hln := h.len
  have hck0 := h.c0
  have hck1 := h.c1
  have HNE := hide' hne
  clear h q2 hne
  go_enter Tryz.func44, Tryz.ntmps44
  go_wp2_with fail
  refine q.mono ?_
  rintro e w1 ⟨hb1, k, er, rfl, hm⟩
  clear q
  have HB1 := hide' hb1
  clear hb1
  rw [hk] at hm
  obtain ⟨rfl, i, n, rfl, hi, hp, rfl⟩ := hm
  have hR1 := (H.out.below HB1.out).at_
  obtain ⟨g, rfl⟩ := row_some hR1 hi
  have c0 := hR1.rb.cells
  have c1 := (row_cells4 hR1 hi).2.1
  rw [hdx] at c1
  have hil := (List.getElem?_eq_some_iff.1 hi).1
  have ki : (i : Int) < ns.length := by omega
  have ki3 : ((i : Int) == -2) = false := beq_eq_false_iff_ne.2 (by omega)
  have ki4 : ¬ (i : Int) = -2 := by omega
  have ki6 : ¬ (i : Int) < 0 := by omega
  have qq := Q2.out w1 HB1.out
  have HIS := hide' (And.intro hi hp)
  have HDX := hide' hdx
  clear hR1 Q2 hi hp hk hdx
  dsimp only
  go_wp2_with fail
  refine qq.mono ?_
  rintro e w2 ⟨hb2, k, er, rfl, hm⟩
  have HB2 := hide' (HB1.out.trans (hb2.mono HB1.out.size))
  clear qq hb2 c0 c1
  cases hkq : lookN (ns.map toE) d with
  | bad m => exact absurd (by rw [hkq]; rfl) (hk0 m)
  | rt => exact absurd (by rw [hkq]; rfl) (hk0 12)
  | non =>
    rw [hkq] at hm
    obtain ⟨rfl, rfl⟩ := hm
    have hqn := (lookN_non hkq).2.1
    have HQN := hide' hqn
    clear hkq hk0 hqn
    have hR2 := (H.out.below HB2.out).at_
    have c0 := hR2.rb.cells
    obtain ⟨d0, d1, d2, d3⟩ := row_cells4 hR2 HIS.out.1
    have hmem := List.mem_of_getElem? HIS.out.1
    obtain ⟨da, dc, hdv⟩ := (hR2.dat n hmem).len
    rw [hdv] at d3
    generalize hdl : n.nd.data.length = dl at hdv d3
    obtain ⟨w3a, hw3a⟩ : ∃ w3a, w3a = w2.alloc (.cells #[.string (mk n.path), .bool n.nd.dir, .int .i64 n.nd.time, .slice da dl dc] 55) := ⟨_, rfl⟩
    have hb3a : Below w2.heap.size w2 w3a := by rw [hw3a]; exact (Below.refl _ _).alloc (Nat.le_refl _) _
    have z3a : w3a.heap[w2.heap.size]? = some (.cells #[.string (mk n.path), .bool n.nd.dir, .int .i64 n.nd.time, .slice da dl dc] 55 (0, 0)) := by rw [hw3a]; exact alloc_new _ _
    have y0 : w3a.cell? ⟨w2.heap.size, 0, none⟩ = some (.string (mk n.path)) := by rw [Lib.cell_of_heap z3a]; rfl
    have yf := Lib.frozen_of_heap z3a 0
    have hs3a : w2.heap.size < w3a.heap.size := by rw [hw3a]; simp
    have HB3A := hide' hb3a
    have HZ3A := hide' z3a
    have HDV := hide' hdv
    have HW3A := hide' hw3a
    clear hb3a z3a hR2 hdv hw3a
    dsimp only
    go_upto_region 20 with fail
    rw [← HW3A.out]
    clear HW3A
    go_upto_region 21 with fail
    generalize hw3 : World.setCell _ _ _ = w3
    have hb3 : Below w2.heap.size w2 w3 := by rw [← hw3]; exact HB3A.out.setCell (p := ⟨w2.heap.size, 0, none⟩) (Nat.le_refl _) _
    have z3 : w3.heap[w2.heap.size]? = some (.cells #[.string (mk d), .bool n.nd.dir, .int .i64 n.nd.time, .slice da dl dc] 55 (0, 0)) := by rw [← hw3]; exact set_row HZ3A.out 0 _
    have hs3 : w2.heap.size < w3.heap.size := by rw [← hw3]; simpa using hs3a
    have hB3 : Below w.heap.size w w3 := HB2.out.trans (hb3.mono HB2.out.size)
    have hR3 : RfAt w3 S R (.slice (some ⟨g, 0, none⟩) ns.length vc) ns clk rm := (H.out.below hB3).at_
    have hd3 : Dat w3 n.dv n.nd.data := hR3.dat n hmem
    have qd := rdrop_own S R _ ns i clk rm w3 hR3 H.out.len hil
    have hTk : (ns.map toE)[i]? = some (n.path, n.nd) := by rw [List.getElem?_map, HIS.out.1]; rfl
    have hdel := del_at H.out.gd.srt hTk
    rw [HIS.out.2] at hdel
    have hmap : (ns.take i ++ ns.drop (i + 1)).map toE = del (ns.map toE) c := by rw [List.map_append, List.map_take, List.map_drop]; exact hdel.symm
    have hl1 : (ns.take i ++ ns.drop (i + 1)).length ≤ 1000 := by rw [List.length_append, List.length_take, List.length_drop]; omega
    have hRw : R < w.heap.size := lt_of_block H.out.at_.rb
    have hwsz := HB2.out.size
    have HSN := hide' (H.out.at_.sD n hmem)
    have HB3 := hide' hB3
    have HZ3 := hide' z3
    have HD3 := hide' hd3
    have HMAP := hide' hmap
    clear hR3 hd3 hB3 hb3 z3 hTk hdel hmap d0 d1 d2 d3 c0 y0 yf hw3 HB3A HZ3A
    go_wp2_with fail
    refine qd.mono ?_
    rintro r w4 ⟨rfl, v4, S4, hR4, hT4, hS4⟩
    clear qd
    generalize hns1 : ns.take i ++ ns.drop (i + 1) = n1 at hR4 HMAP hl1
    clear hns1
    have hs4 := hT4.size
    have hT4w : Turn S w w4 := (Turn.of_below HB3.out).trans' (hT4.mono fun i e => by rw [e]; exact H.out.at_.sR)
    have z4 := (hT4.block w2.heap.size hs3 (by omega)).trans HZ3.out
    have hd4 : Dat w4 n.dv n.nd.data := HD3.out.kept fun b hb => hT4.block b (HD3.out.lt b hb) fun e => dat_ne_rb HD3.out (H.out.below HB3.out).at_.rb b hb e
    have hS4w : ∀ i, S4 i → S i ∨ w.heap.size ≤ i := fun i hi => (hS4 i hi).imp id fun h => Nat.le_trans HB3.out.size h
    have hsr : Srt (n1.map toE) := by rw [HMAP.out]; exact H.out.gd.srt.del c
    have hfn : fnd (n1.map toE) d = none := by rw [HMAP.out]; exact (fnd_del_other _ HNE.out).trans HQN.out
    have hd' : Dat w4 (.slice da dl dc) n.nd.data := by rw [← HDV.out]; exact hd4
    have hsn : ∀ b, (Value.slice da dl dc).ownBlock = some b → S4 b ∨ S b := fun b hb => .inr (HSN.out b (by rw [HDV.out]; exact hb))
    have qp := rput_any (fun i => S4 i ∨ S i) R v4 n1 ⟨d, .slice da dl dc, n.nd⟩ clk rm w4 (hR4.mono fun _ hi => .inl hi) hsr hl1 hd' hsn hfn
    have b0 : w4.cell? ⟨w2.heap.size, 0, none⟩ = some (.string (mk d)) := by rw [Lib.cell_of_heap z4]; rfl
    have b1 : w4.cell? ⟨w2.heap.size, 1, none⟩ = some (.bool n.nd.dir) := by rw [Lib.cell_of_heap z4]; rfl
    have b2 : w4.cell? ⟨w2.heap.size, 2, none⟩ = some (.int .i64 n.nd.time) := by rw [Lib.cell_of_heap z4]; rfl
    have b3 : w4.cell? ⟨w2.heap.size, 3, none⟩ = some (.slice da dl dc) := by rw [Lib.cell_of_heap z4]; rfl
    have HTT := hide' hT4w
    have HSS := hide' hS4w
    clear hR4 hT4w z4 hd4 hS4w hT4 hS4 hsr hfn hd' hsn
    dsimp only
    go_wp2_with fail
    refine qp.mono ?_
    rintro r w6 ⟨rfl, v6, n6, S6, hR6, hm6, hT6, hS6⟩
    clear qp b0 b1 b2 b3
    have hS6w : ∀ i, S6 i → S i ∨ w.heap.size ≤ i := fun i hi => (hS6 i hi).elim (fun h => h.elim (HSS.out i) .inl) fun h => .inr (Nat.le_trans HTT.out.size h)
    have hT6w : Turn S w w6 := HTT.out.trans hT6 fun i hi => hi.elim (HSS.out i) .inl
    have f1 : w6.frozen? ⟨R, 1, none⟩ = false := Lib.frozen_of_heap hR6.rb 1
    have c1 : w6.cell? ⟨R, 1, none⟩ = some (.int .i64 clk) := by have := hR6.rb; unfold Rb at this; rw [Lib.cell_of_heap this]; rfl
    have hwr : IntKind.i64.wrap (clk + 1) = clk + 1 := i64_id _ (by omega)
    have HFIN := hide' (hR6.clock (clk + 1))
    have HT6 := hide' (And.intro hT6w hS6w)
    have hm7 : n6.map toE = put (del (ns.map toE) c) d n.nd := by
      rw [hm6, HMAP.out]
    have HM7 := hide' hm7
    clear hR6 hm6 hT6 hS6 hS6w hT6w hm7
    dsimp only
    go_wp2_with fail
    refine bodyPost_ret (v := .int .i64 0) (by simp [results, Tryz.results44, go_sem]) rfl ?_
    exact ⟨rfl, _, _, _, HFIN.out.1, HM7.out, HT6.out.1.trans HFIN.out.2 (fun i hi => HT6.out.2 i hi), HT6.out.2⟩
  | is y =>
    rw [hkq] at hm hk0
    obtain ⟨rfl, j, n2, rfl, hj, hp2, rfl⟩ := hm
    have hd2 : n2.nd.dir = false := by
      cases hd : n2.nd.dir with
      | false => rfl
      | true => exact absurd (by simp [fileN, hd]) (hk0 12)
    have hjl := (List.getElem?_eq_some_iff.1 hj).1
    have kj : (j : Int) < ns.length := by omega
    have kj3 : ((j : Int) == -2) = false := beq_eq_false_iff_ne.2 (by omega)
    have kj4 : ¬ (j : Int) = -2 := by omega
    have kj5 : (0 : Int) ≤ (j : Int) := by omega
    have hqn := (lookN_is hkq).2.1
    have HQN := hide' hqn
    have x1 := (row_cells4 (H.out.below HB2.out).at_ hj).2.1
    rw [hd2] at x1
    clear hkq hk0 hqn hj hp2 hd2
    have hR2 := (H.out.below HB2.out).at_
    have c0 := hR2.rb.cells
    obtain ⟨d0, d1, d2, d3⟩ := row_cells4 hR2 HIS.out.1
    have hmem := List.mem_of_getElem? HIS.out.1
    obtain ⟨da, dc, hdv⟩ := (hR2.dat n hmem).len
    rw [hdv] at d3
    generalize hdl : n.nd.data.length = dl at hdv d3
    obtain ⟨w3a, hw3a⟩ : ∃ w3a, w3a = w2.alloc (.cells #[.string (mk n.path), .bool n.nd.dir, .int .i64 n.nd.time, .slice da dl dc] 55) := ⟨_, rfl⟩
    have hb3a : Below w2.heap.size w2 w3a := by rw [hw3a]; exact (Below.refl _ _).alloc (Nat.le_refl _) _
    have z3a : w3a.heap[w2.heap.size]? = some (.cells #[.string (mk n.path), .bool n.nd.dir, .int .i64 n.nd.time, .slice da dl dc] 55 (0, 0)) := by rw [hw3a]; exact alloc_new _ _
    have y0 : w3a.cell? ⟨w2.heap.size, 0, none⟩ = some (.string (mk n.path)) := by rw [Lib.cell_of_heap z3a]; rfl
    have yf := Lib.frozen_of_heap z3a 0
    have hs3a : w2.heap.size < w3a.heap.size := by rw [hw3a]; simp
    have HB3A := hide' hb3a
    have HZ3A := hide' z3a
    have HDV := hide' hdv
    have HW3A := hide' hw3a
    clear hb3a z3a hR2 hdv hw3a
    dsimp only
    go_upto_region 20 with fail
    rw [← HW3A.out]
    clear HW3A
    go_upto_region 21 with fail
    generalize hw3 : World.setCell _ _ _ = w3
    have hb3 : Below w2.heap.size w2 w3 := by rw [← hw3]; exact HB3A.out.setCell (p := ⟨w2.heap.size, 0, none⟩) (Nat.le_refl _) _
    have z3 : w3.heap[w2.heap.size]? = some (.cells #[.string (mk d), .bool n.nd.dir, .int .i64 n.nd.time, .slice da dl dc] 55 (0, 0)) := by rw [← hw3]; exact set_row HZ3A.out 0 _
    have hs3 : w2.heap.size < w3.heap.size := by rw [← hw3]; simpa using hs3a
    have hB3 : Below w.heap.size w w3 := HB2.out.trans (hb3.mono HB2.out.size)
    have hR3 : RfAt w3 S R (.slice (some ⟨g, 0, none⟩) ns.length vc) ns clk rm := (H.out.below hB3).at_
    have hd3 : Dat w3 n.dv n.nd.data := hR3.dat n hmem
    have qd := rdrop_own S R _ ns i clk rm w3 hR3 H.out.len hil
    have hTk : (ns.map toE)[i]? = some (n.path, n.nd) := by rw [List.getElem?_map, HIS.out.1]; rfl
    have hdel := del_at H.out.gd.srt hTk
    rw [HIS.out.2] at hdel
    have hmap : (ns.take i ++ ns.drop (i + 1)).map toE = del (ns.map toE) c := by rw [List.map_append, List.map_take, List.map_drop]; exact hdel.symm
    have hl1 : (ns.take i ++ ns.drop (i + 1)).length ≤ 1000 := by rw [List.length_append, List.length_take, List.length_drop]; omega
    have hRw : R < w.heap.size := lt_of_block H.out.at_.rb
    have hwsz := HB2.out.size
    have HSN := hide' (H.out.at_.sD n hmem)
    have HB3 := hide' hB3
    have HZ3 := hide' z3
    have HD3 := hide' hd3
    have HMAP := hide' hmap
    clear hR3 hd3 hB3 hb3 z3 hTk hdel hmap d0 d1 d2 d3 c0 y0 yf hw3 HB3A HZ3A x1
    go_wp2_with fail
    refine qd.mono ?_
    rintro r w4 ⟨rfl, v4, S4, hR4, hT4, hS4⟩
    clear qd
    generalize hns1 : ns.take i ++ ns.drop (i + 1) = n1 at hR4 HMAP hl1
    clear hns1
    have hs4 := hT4.size
    have hT4w : Turn S w w4 := (Turn.of_below HB3.out).trans' (hT4.mono fun i e => by rw [e]; exact H.out.at_.sR)
    have z4 := (hT4.block w2.heap.size hs3 (by omega)).trans HZ3.out
    have hd4 : Dat w4 n.dv n.nd.data := HD3.out.kept fun b hb => hT4.block b (HD3.out.lt b hb) fun e => dat_ne_rb HD3.out (H.out.below HB3.out).at_.rb b hb e
    have hS4w : ∀ i, S4 i → S i ∨ w.heap.size ≤ i := fun i hi => (hS4 i hi).imp id fun h => Nat.le_trans HB3.out.size h
    have hsr1 : Srt (n1.map toE) := by rw [HMAP.out]; exact H.out.gd.srt.del c
    have qa := rat_any R v4 n1 clk rm d w4 hR4.rb hR4.nodes hsr1 hl1
    have HR4 := hide' hR4
    have HT4 := hide' hT4w
    have HZ4 := hide' z4
    have HD4 := hide' hd4
    have HS4 := hide' hS4w
    clear hR4 hT4w z4 hd4 hS4w hT4 hS4
    dsimp only
    go_wp2_with fail
    refine qa.mono ?_
    rintro r w4' ⟨⟨y, rfl, hy⟩, hw4'⟩
    obtain rfl := hw4'.symm
    clear qa
    obtain ⟨j1, m1, rfl, hj1, hm1⟩ : ∃ j1 m1, y = ((j1 : Nat) : Int) ∧ n1[j1]? = some m1 ∧ m1.path = d := by
      rcases hy with ⟨_, hf⟩ | ⟨j1, m1, h1, h2, h3⟩
      · rw [HMAP.out, fnd_del_other _ HNE.out, HQN.out] at hf
        cases hf
      · exact ⟨j1, m1, h1, h2, h3⟩
    have hj1l := (List.getElem?_eq_some_iff.1 hj1).1
    have qd2 := rdrop_own S4 R v4 n1 j1 clk rm w4 HR4.out hl1 hj1l
    have hTk1 : (n1.map toE)[j1]? = some (m1.path, m1.nd) := by rw [List.getElem?_map, hj1]; rfl
    have hdel1 := del_at hsr1 hTk1
    rw [hm1] at hdel1
    have hmap1 : (n1.take j1 ++ n1.drop (j1 + 1)).map toE = del (del (ns.map toE) c) d := by rw [List.map_append, List.map_take, List.map_drop, ← hdel1, HMAP.out]
    have hl2 : (n1.take j1 ++ n1.drop (j1 + 1)).length ≤ 1000 := by rw [List.length_append, List.length_take, List.length_drop]; omega
    have HMAP1 := hide' hmap1
    clear hy hj1 hm1 hTk1 hdel1 hmap1 hj1l
    dsimp only
    go_wp2_with fail
    refine qd2.mono ?_
    rintro r w5 ⟨rfl, v5, S5, hR5, hT5, hS5⟩
    clear qd2
    generalize hns2 : n1.take j1 ++ n1.drop (j1 + 1) = n2' at hR5 HMAP1 hl2
    clear hns2
    have hT5w : Turn S w w5 := HT4.out.trans (hT5.mono fun i e => by rw [e]; exact HR4.out.sR) fun i hi => HS4.out i hi
    have z5 := (hT5.block w2.heap.size (by omega) (by omega)).trans HZ4.out
    have hd5 : Dat w5 n.dv n.nd.data := HD4.out.kept fun b hb => hT5.block b (HD4.out.lt b hb) fun e => dat_ne_rb HD4.out HR4.out.rb b hb e
    have hS5w : ∀ i, S5 i → S i ∨ w.heap.size ≤ i := fun i hi => (hS5 i hi).elim (HS4.out i) fun h => .inr (Nat.le_trans HT4.out.size h)
    have hsr : Srt (n2'.map toE) := by rw [HMAP1.out]; exact (H.out.gd.srt.del c).del d
    have hfn : fnd (n2'.map toE) d = none := by rw [HMAP1.out]; exact fnd_del_same _ _
    have hd' : Dat w5 (.slice da dl dc) n.nd.data := by rw [← HDV.out]; exact hd5
    have hsn : ∀ b, (Value.slice da dl dc).ownBlock = some b → S5 b ∨ S b := fun b hb => .inr (HSN.out b (by rw [HDV.out]; exact hb))
    have qp := rput_any (fun i => S5 i ∨ S i) R v5 n2' ⟨d, .slice da dl dc, n.nd⟩ clk rm w5 (hR5.mono fun _ hi => .inl hi) hsr hl2 hd' hsn hfn
    have b0 : w5.cell? ⟨w2.heap.size, 0, none⟩ = some (.string (mk d)) := by rw [Lib.cell_of_heap z5]; rfl
    have b1 : w5.cell? ⟨w2.heap.size, 1, none⟩ = some (.bool n.nd.dir) := by rw [Lib.cell_of_heap z5]; rfl
    have b2 : w5.cell? ⟨w2.heap.size, 2, none⟩ = some (.int .i64 n.nd.time) := by rw [Lib.cell_of_heap z5]; rfl
    have b3 : w5.cell? ⟨w2.heap.size, 3, none⟩ = some (.slice da dl dc) := by rw [Lib.cell_of_heap z5]; rfl
    have HTT := hide' hT5w
    have HSS := hide' hS5w
    clear hR5 hT5w z5 hd5 hS5w hT5 hS5 hsr hfn hd' hsn
    dsimp only
    go_wp2_with fail
    refine qp.mono ?_
    rintro r w6 ⟨rfl, v6, n6, S6, hR6, hm6, hT6, hS6⟩
    clear qp b0 b1 b2 b3
    have hS6w : ∀ i, S6 i → S i ∨ w.heap.size ≤ i := fun i hi => (hS6 i hi).elim (fun h => h.elim (HSS.out i) .inl) fun h => .inr (Nat.le_trans HTT.out.size h)
    have hT6w : Turn S w w6 := HTT.out.trans hT6 fun i hi => hi.elim (HSS.out i) .inl
    have f1 : w6.frozen? ⟨R, 1, none⟩ = false := Lib.frozen_of_heap hR6.rb 1
    have c1 : w6.cell? ⟨R, 1, none⟩ = some (.int .i64 clk) := by have := hR6.rb; unfold Rb at this; rw [Lib.cell_of_heap this]; rfl
    have hwr : IntKind.i64.wrap (clk + 1) = clk + 1 := i64_id _ (by omega)
    have HFIN := hide' (hR6.clock (clk + 1))
    have HT6 := hide' (And.intro hT6w hS6w)
    have hm7 : n6.map toE = put (del (ns.map toE) c) d n.nd := by
      rw [hm6, HMAP1.out]
      show put (del (del (ns.map toE) c) d) d n.nd = _; unfold put; rw [del_twice]
    have HM7 := hide' hm7
    clear hR6 hm6 hT6 hS6 hS6w hT6w hm7
    dsimp only
    go_wp2_with fail
    refine bodyPost_ret (v := .int .i64 0) (by simp [results, Tryz.results44, go_sem]) rfl ?_
    exact ⟨rfl, _, _, _, HFIN.out.1, HM7.out, HT6.out.1.trans HFIN.out.2 (fun i hi => HT6.out.2 i hi), HT6.out.2⟩
/-- Rename -/
theorem rrename_any (S : Nat → Prop) (R : Nat) (v : Value) (ns : List Nv) (clk rm : Int) (P Q : ByteArray) (w : World) (h : RGd w S R v ns clk rm) (hP : P.size ≤ 300000) (hQ : Q.size ≤ 300000) :
    Calls Tryz.prog 44 #[.pointer (some ⟨R, 0, none⟩), .string P, .string Q] w fun r w' => RfOut S R rm w r w' (renameR (ns.map toE) clk (clean (tl P)) (clean (tl Q))) := by
  unfold renameR
  cases hf : fileN (lookN (ns.map toE) (clean (tl P))) with
  | bad m => exact rrename_p S R v ns clk rm P Q w h hP m (.inr hf)
  | non => exact rrename_p S R v ns clk rm P Q w h hP 10 (.inl ⟨hf, rfl⟩)
  | rt => exact (fileN_rt hf).elim
  | is x =>
    obtain ⟨hx, hd⟩ := fileN_is hf
    have key : (∀ m, fileN (lookN (ns.map toE) (clean (tl Q))) ≠ .bad m) → Calls Tryz.prog 44 #[.pointer (some ⟨R, 0, none⟩), .string P, .string Q] w fun r w' => RfOut S R rm w r w' (if clean (tl P) = clean (tl Q) then (0, ns.map toE, clk) else (0, put (del (ns.map toE) (clean (tl P))) (clean (tl Q)) x, clk + 1)) := fun hq => by
      by_cases he : clean (tl P) = clean (tl Q)
      · rw [if_pos he]
        exact rrename_q S R v ns clk rm P Q w h hP hQ x hx hd 0 (.inr ⟨he, rfl⟩)
      · rw [if_neg he]
        exact rrename_go S R v ns clk rm P Q w h hP hQ x hx hd he hq
    cases hg : fileN (lookN (ns.map toE) (clean (tl Q))) with
    | bad m => exact rrename_q S R v ns clk rm P Q w h hP hQ x hx hd m (.inl hg)
    | non => exact key fun m e => by rw [hg] at e; cases e
    | rt => exact key fun m e => by rw [hg] at e; cases e
    | is y => exact key fun m e => by rw [hg] at e; cases e
end Go.Proofs.YtpbfhbnkalambaaGreatDoor
