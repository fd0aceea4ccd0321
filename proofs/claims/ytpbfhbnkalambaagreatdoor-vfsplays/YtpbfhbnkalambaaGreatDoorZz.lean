/- The contract of the reference's Write. A node of the reference's file system is turned in its place. The contract of the reference's Write where nothing is there. -/
import Derived.Test.YtpbfhbnkalambaaGreatDoorZv
namespace Go.Proofs.YtpbfhbnkalambaaGreatDoor
open Go.RowKit Go.Maps

set_option maxRecDepth 100000 in
set_option maxHeartbeats 4000000 in
theorem rwrite_err (S : Nat → Prop) (R : Nat) (v : Value) (ns : List Nv) (clk rm : Int) (P : ByteArray) (bv : Value) (bs : Bs) (add : Bool) (w : World) (h : RGd w S R v ns clk rm) (hP : P.size ≤ 300000) (hb : Rds w bv bs) (m : Nat) (hk0 : fileN (lookN (ns.map toE) (clean (tl P))) = .bad m) :
    Calls Tryz.prog 41 #[.pointer (some ⟨R, 0, none⟩), .string P, bv, .bool add] w fun r w' => RfOut S R rm w r w' (m, ns.map toE, clk) := by
  obtain ⟨va, vc, hv⟩ := h.at_.row.len
  subst hv
  obtain ⟨ba, bc, hbv⟩ := hb.len
  generalize bs.length = bl at hbv
  subst hbv
  have q := rlook_any R _ ns clk rm P w h.at_.rb h.at_.nodes h.gd.srt h.len hP
  generalize clean (tl P) = c at q hk0
  have H := hide' h
  clear h hb
  go_enter Tryz.func41, Tryz.ntmps41
  go_wp2_with fail
  refine q.mono ?_
  rintro e w1 ⟨hb1, k, er, rfl, hm⟩
  clear q
  have HB1 := hide' hb1
  clear hb1
  cases hk : lookN (ns.map toE) c with
  | bad m' =>
    have hm0 := lookN_bad hk
    rw [hk] at hm hk0
    obtain ⟨rfl, rfl⟩ := hm
    simp only [fileN, Lk.bad.injEq] at hk0
    subst hk0
    have HE := hide' (rf_same H.out HB1.out m')
    have h1 : ((m' : Int) == 0) = false := beq_eq_false_iff_ne.2 (by omega)
    have h2 : ¬ (m' : Int) = 0 := by omega
    clear hk hm0
    dsimp only
    go_wp2_with fail
    refine bodyPost_ret (v := .int .i64 m') (by simp [results, Tryz.results41, go_sem]) rfl ?_
    exact HE.out
  | non => rw [hk] at hk0; cases hk0
  | rt =>
    rw [hk] at hm hk0
    obtain ⟨rfl, rfl⟩ := hm
    simp only [fileN, Lk.bad.injEq] at hk0
    subst hk0
    have HE := hide' (rf_same H.out HB1.out 12)
    clear hk
    dsimp only
    go_wp2_with fail
    refine bodyPost_ret (v := .int .i64 12) (by simp [results, Tryz.results41, go_sem]) rfl ?_
    exact HE.out
  | is x =>
    rw [hk] at hm hk0
    obtain ⟨rfl, i, n, rfl, hi, hp, rfl⟩ := hm
    cases hd : n.nd.dir with
    | false => simp [fileN, hd] at hk0
    | true =>
      simp only [fileN, hd, if_true, Lk.bad.injEq] at hk0
      subst hk0
      have HE := hide' (rf_same H.out HB1.out 12)
      have hil := (List.getElem?_eq_some_iff.1 hi).1
      have hR1 := (H.out.below HB1.out).at_
      have c0 := hR1.rb.cells
      rcases hR1.nodes with ⟨_, e0⟩ | ⟨g2, o2, cap2, hv2, hc2, hrow, -⟩
      · rw [e0] at hi
        simp at hi
      · cases hv2
        have c1 := hrow.c1 i n hi
        rw [hd] at c1
        have ki : (i : Int) < ns.length := by omega
        have ki3 : ((i : Int) == -2) = false := beq_eq_false_iff_ne.2 (by omega)
        have ki4 : ¬ (i : Int) = -2 := by omega
        have ki5 : (0 : Int) ≤ (i : Int) := by omega
        clear hk hi hp hd hrow hR1
        dsimp only
        go_wp2_with fail
        refine bodyPost_ret (v := .int .i64 12) (by simp [results, Tryz.results41, go_sem]) rfl ?_
        exact HE.out
end Go.Proofs.YtpbfhbnkalambaaGreatDoor
namespace Go.Proofs.YtpbfhbnkalambaaGreatDoor
open Go.RowKit Go.Maps

theorem flat_set2 (t : Int) (d : Bs) : ∀ (ns : List Nv) (k : Nat) (m : Nv), ns[k]? = some m → (flat ns).set (k * 4 + 2) (.int .i64 t) = flat (ns.set k ⟨m.path, m.dv, ⟨m.nd.dir, t, d⟩⟩)
  | [], k, m, h => by simp at h
  | x :: r, 0, m, h => by
    obtain rfl : x = m := by simpa using h
    rfl
  | x :: r, k + 1, m, h => by
    have e : (k + 1) * 4 + 2 = (k * 4 + 2) + 1 + 1 + 1 + 1 := by omega
    have e2 : flat ((x :: r).set (k + 1) ⟨m.path, m.dv, ⟨m.nd.dir, t, d⟩⟩) = cellsN x ++ flat (r.set k ⟨m.path, m.dv, ⟨m.nd.dir, t, d⟩⟩) := rfl
    rw [e2, ← flat_set2 t d r k m (by simpa using h), e]
    rfl
theorem flat_set3 (dv : Value) (d : Bs) : ∀ (ns : List Nv) (k : Nat) (m : Nv), ns[k]? = some m → (flat ns).set (k * 4 + 3) dv = flat (ns.set k ⟨m.path, dv, ⟨m.nd.dir, m.nd.time, d⟩⟩)
  | [], k, m, h => by simp at h
  | x :: r, 0, m, h => by
    obtain rfl : x = m := by simpa using h
    rfl
  | x :: r, k + 1, m, h => by
    have e : (k + 1) * 4 + 3 = (k * 4 + 3) + 1 + 1 + 1 + 1 := by omega
    have e2 : flat ((x :: r).set (k + 1) ⟨m.path, dv, ⟨m.nd.dir, m.nd.time, d⟩⟩) = cellsN x ++ flat (r.set k ⟨m.path, dv, ⟨m.nd.dir, m.nd.time, d⟩⟩) := rfl
    rw [e2, ← flat_set3 dv d r k m (by simpa using h), e]
    rfl
theorem mem_set {ns : List Nv} {k : Nat} {a n : Nv} (h : n ∈ ns.set k a) : n = a ∨ n ∈ ns := (List.mem_or_eq_of_mem_set h).symm
/-- its time -/
theorem RfAt.time {w : World} {S : Nat → Prop} {R g cap : Nat} {ns : List Nv} {clk rm : Int} (h : RfAt w S R (.slice (some ⟨g, 0, none⟩) ns.length cap) ns clk rm) {k : Nat} {m : Nv} (hm : ns[k]? = some m) (t : Int) :
    RfAt (w.setCell ⟨g, k * 4 + 2, none⟩ (.int .i64 t)) S R (.slice (some ⟨g, 0, none⟩) ns.length cap) (ns.set k ⟨m.path, m.dv, ⟨m.nd.dir, t, m.nd.data⟩⟩) clk rm ∧ Turn S w (w.setCell ⟨g, k * 4 + 2, none⟩ (.int .i64 t)) := by
  have hset : ∀ b, b ≠ g → (w.setCell ⟨g, k * 4 + 2, none⟩ (.int .i64 t)).heap[b]? = w.heap[b]? := fun b hb => Below.heap_setCell w ⟨g, k * 4 + 2, none⟩ _ b (by simpa using hb)
  have hgR : R ≠ g := fun e => h.row.ne_rb h.rb g rfl e.symm
  have hrow : NOwn (w.setCell ⟨g, k * 4 + 2, none⟩ (.int .i64 t)) (.slice (some ⟨g, 0, none⟩) ns.length cap) (ns.set k ⟨m.path, m.dv, ⟨m.nd.dir, t, m.nd.data⟩⟩) := by
    rcases h.row with ⟨e, _⟩ | ⟨g', cap', cur, e, hg, h1, h2, h4⟩
    · cases e
    · cases e
      refine .inr ⟨g, cap, _, by rw [List.length_set], set_row hg _ _, by rw [List.length_set]; exact h1, by rw [Array.size_setIfInBounds]; exact h2, ?_⟩
      rw [List.length_set, Array.toList_setIfInBounds, List.take_set, h4]
      exact flat_set2 t m.nd.data ns k m hm
  have hmm := List.mem_of_getElem? hm
  have hd : ∀ n ∈ ns, Dat (w.setCell ⟨g, k * 4 + 2, none⟩ (.int .i64 t)) n.dv n.nd.data := fun n hn => (h.dat n hn).kept fun b hb => hset b fun e => h.row.ne_dat (h.dat n hn) g rfl (by rw [← e]; exact hb)
  refine ⟨⟨(hset R hgR).trans h.rb, hrow, fun n hn => ?_, h.sR, h.sV, fun n hn b hb => ?_⟩, rfl, rfl, rfl, Nat.le_of_eq (by simp), fun b _ hn => hset b fun e => hn (by rw [e]; exact h.sV g rfl)⟩
  · rcases mem_set hn with rfl | hn
    · exact hd m hmm
    · exact hd n hn
  · rcases mem_set hn with rfl | hn
    · exact h.sD m hmm b hb
    · exact h.sD n hn b hb
/-- its bytes -/
theorem RfAt.bytes {w : World} {S : Nat → Prop} {R g cap : Nat} {ns : List Nv} {clk rm : Int} (h : RfAt w S R (.slice (some ⟨g, 0, none⟩) ns.length cap) ns clk rm) {k : Nat} {m : Nv} (hm : ns[k]? = some m) {dv : Value} {d : Bs} (hdv : Dat w dv d) (hS : ∀ b, dv.ownBlock = some b → S b) :
    RfAt (w.setCell ⟨g, k * 4 + 3, none⟩ dv) S R (.slice (some ⟨g, 0, none⟩) ns.length cap) (ns.set k ⟨m.path, dv, ⟨m.nd.dir, m.nd.time, d⟩⟩) clk rm ∧ Turn S w (w.setCell ⟨g, k * 4 + 3, none⟩ dv) := by
  have hset : ∀ b, b ≠ g → (w.setCell ⟨g, k * 4 + 3, none⟩ dv).heap[b]? = w.heap[b]? := fun b hb => Below.heap_setCell w ⟨g, k * 4 + 3, none⟩ _ b (by simpa using hb)
  have hgR : R ≠ g := fun e => h.row.ne_rb h.rb g rfl e.symm
  have hrow : NOwn (w.setCell ⟨g, k * 4 + 3, none⟩ dv) (.slice (some ⟨g, 0, none⟩) ns.length cap) (ns.set k ⟨m.path, dv, ⟨m.nd.dir, m.nd.time, d⟩⟩) := by
    rcases h.row with ⟨e, _⟩ | ⟨g', cap', cur, e, hg, h1, h2, h4⟩
    · cases e
    · cases e
      refine .inr ⟨g, cap, _, by rw [List.length_set], set_row hg _ _, by rw [List.length_set]; exact h1, by rw [Array.size_setIfInBounds]; exact h2, ?_⟩
      rw [List.length_set, Array.toList_setIfInBounds, List.take_set, h4]
      exact flat_set3 dv d ns k m hm
  have hd : ∀ v bs, Dat w v bs → Dat (w.setCell ⟨g, k * 4 + 3, none⟩ dv) v bs := fun v bs hn => hn.kept fun b hb => hset b fun e => h.row.ne_dat hn g rfl (by rw [← e]; exact hb)
  refine ⟨⟨(hset R hgR).trans h.rb, hrow, fun n hn => ?_, h.sR, h.sV, fun n hn b hb => ?_⟩, rfl, rfl, rfl, Nat.le_of_eq (by simp), fun b _ hn => hset b fun e => hn (by rw [e]; exact h.sV g rfl)⟩
  · rcases mem_set hn with rfl | hn
    · exact hd _ _ hdv
    · exact hd _ _ (h.dat n hn)
  · rcases mem_set hn with rfl | hn
    · exact hS b hb
    · exact h.sD n hn b hb
theorem map_set {ns : List Nv} {k : Nat} {a : Nv} : (ns.set k a).map toE = (ns.map toE).set k (toE a) := List.map_set
/-- a node that is there, laid anew -/
theorem putR_old {T : Tr} (hs : Srt T) {clk rm : Int} {p : Bs} {n o : Nd} (hf : fnd T p = some o) (hl : T.length ≤ 1000) : putR T clk rm p n = if (weight T : Int) + ((n.data.length : Int) - o.data.length) ≤ rm then (0, put T p { n with time := clk + 1 }, clk + 1) else (15, T, clk) := by
  unfold putR
  have h1 := del_length hs p
  have h2 := sumOf_del Nd.wt hs p
  rw [hf] at h1 h2
  simp only at h1 h2
  have e1 : (put T p n).length = T.length := by rw [put_length]; exact h1
  have e2 : (weight (put T p n) : Int) = (weight T : Int) + ((n.data.length : Int) - o.data.length) := by
    unfold weight
    rw [sumOf_put]
    simp only [Nd.wt] at h2 ⊢
    omega
  rw [e1, e2]
  by_cases hc : (weight T : Int) + ((n.data.length : Int) - o.data.length) ≤ rm
  · rw [if_pos hc, if_pos ⟨hl, hc⟩]
  · rw [if_neg hc, if_neg (fun h => hc h.2)]
end Go.Proofs.YtpbfhbnkalambaaGreatDoor
namespace Go.Proofs.YtpbfhbnkalambaaGreatDoor
open Go.RowKit Go.Maps

set_option maxRecDepth 100000 in
set_option maxHeartbeats 4000000 in
theorem rwrite_non (S : Nat → Prop) (R : Nat) (v : Value) (ns : List Nv) (clk rm : Int) (P : ByteArray) (bv : Value) (bs : Bs) (add : Bool) (w : World) (h : RGd w S R v ns clk rm) (hP : P.size ≤ 300000) (hb : Rds w bv bs) (hbl : bs.length ≤ 1000000) (hk : lookN (ns.map toE) (clean (tl P)) = .non) :
    Calls Tryz.prog 41 #[.pointer (some ⟨R, 0, none⟩), .string P, bv, .bool add] w fun r w' => RfOut S R rm w r w' (if 65536 < bs.length then (2, ns.map toE, clk) else putR (ns.map toE) clk rm (clean (tl P)) ⟨false, 0, bs⟩) := by
  obtain ⟨va, vc, hv⟩ := h.at_.row.len
  subst hv
  obtain ⟨ba, bc, hbv⟩ := hb.len
  have q := rlook_any R _ ns clk rm P w h.at_.rb h.at_.nodes h.gd.srt h.len hP
  generalize clean (tl P) = c at q hk ⊢
  have hnn := lookN_non hk
  rw [putR_new hnn.2.1]
  generalize hst : (if 65536 < bs.length then ((2, ns.map toE, clk) : Out) else _) = st
  have HST := hide' hst
  have H := hide' h
  have HNN := hide' hnn
  have HBS := hide' hb
  clear h hb hst hnn
  generalize hbln : bs.length = bl at hbv
  have HBL := hide' hbln
  subst hbv
  go_enter Tryz.func41, Tryz.ntmps41
  go_wp2_with fail
  refine q.mono ?_
  rintro e w1 ⟨hb1, k, er, rfl, hm⟩
  clear q
  rw [hk] at hm
  obtain ⟨rfl, rfl⟩ := hm
  have HB1 := hide' hb1
  have HBS1 := hide' (HBS.out.below hb1)
  clear hb1 hk
  dsimp only
  rw [hbln] at hbl
  clear hbln
  go_upto_region 15 with (at_builtin; refine wpList_plain rfl fun _ hK => ?_; refine wp_append_own2 (v := .slice none 0 0) (xs := []) _ _ _ rfl rfl rfl (Dat.nil _) HBS1.out (by have := HBL.out; simp only [List.length_nil]; omega) ?_; intro v2 w2 hd2 _ hg2 hat2; refine hK _ _ ?_)
  rw [List.nil_append] at hd2
  have hB2 : Below w1.heap.size w1 w2 := ⟨hg2.os, hg2.tape, hg2.output, hg2.size, fun k hk => hg2.block k hk fun e => by cases e⟩
  have hown : ∀ g, v2.ownBlock = some g → w1.heap.size ≤ g := fun g hg => by
    rcases hat2 with h9 | h9
    · rw [h9] at hg
      cases hg
    · rw [h9] at hg
      cases hg
      exact Nat.le_refl _
  obtain ⟨v2a, v2c, hv2⟩ := hd2.len
  rw [HBL.out] at hv2
  subst hv2
  have HBw : Hid (Below w.heap.size w w2) := hide' (HB1.out.trans (hB2.mono HB1.out.size))
  have HD2 := hide' hd2
  have HOW := hide' hown
  clear hd2 hB2 hown hg2 hat2
  by_cases hlong : 65536 < bl
  · have HS1 : Hid (st = (2, ns.map toE, clk)) := by show _ = _; rw [← HST.out, HBL.out]; exact if_pos hlong
    have g0 : (65536 : Int) < bl := by omega
    go_wp2_with fail
    refine bodyPost_ret (v := .int .i64 2) (by simp [results, Tryz.results41, go_sem]) rfl ?_
    rw [HS1.out]
    exact rf_same H.out HBw.out 2
  · have g0 : ¬ (65536 : Int) < bl := by omega
    have hs0 : st = if ns.length < 1000 ∧ (weight (ns.map toE) : Int) + (1 + bl : Nat) ≤ rm then (0, put (ns.map toE) c ⟨false, clk + 1, bs⟩, clk + 1) else (15, ns.map toE, clk) := by
      rw [← HST.out, HBL.out, if_neg hlong, List.length_map]
      simp only [Nd.wt, HBL.out]
    have hR2 := (H.out.below HBw.out)
    have c0 := hR2.at_.rb.cells
    have c1 : w2.cell? ⟨R, 1, none⟩ = some (.int .i64 clk) := by have := hR2.at_.rb; unfold Rb at this; rw [Lib.cell_of_heap this]; rfl
    have c2 : w2.cell? ⟨R, 2, none⟩ = some (.int .i64 rm) := by have := hR2.at_.rb; unfold Rb at this; rw [Lib.cell_of_heap this]; rfl
    have qw := fun n => rweight_any (.slice va ns.length vc) ns (w2.drewN n) (hR2.at_.nodes.below (below_drewn n)) H.out.len H.out.data
    have hwl := H.out.wt
    have hrm1 := H.out.rm1
    have hln := H.out.len
    generalize hwt : weight (ns.map toE) = wt at *
    have hw1 : (wt : Int) ≤ 1048576 := by omega
    have HS0 := hide' hs0
    have HR2 := hide' hR2
    clear HST hs0 hwt hR2 hwl
    have e0 : IntKind.i64.wrap ((bl : Int) + 1) = (bl : Int) + 1 := i64_id _ (by omega)
    have e1 : IntKind.i64.wrap ((wt : Int) + ((bl : Int) + 1)) = (wt : Int) + ((bl : Int) + 1) := i64_id _ (by omega)
    by_cases hlen : 1000 ≤ ns.length
    · have g1 : decide ((1000 : Int) ≤ (ns.length : Nat)) = true := decide_eq_true (by omega)
      have g2 : decide (1000 ≤ ns.length) = true := decide_eq_true hlen
      have HS1 : Hid (st = (15, ns.map toE, clk)) := by show _ = _; rw [HS0.out]; exact if_neg fun hh => by omega
      go_upto_region 20 with fail
      go_quiet (fail)
      go_wp2_with fail
      refine bodyPost_ret (v := .int .i64 15) (by simp [results, Tryz.results41, go_sem]) rfl ?_
      rw [HS1.out]
      exact rf_same H.out (HBw.out.trans (below_drewn _)) 15
    · have g1 : decide ((1000 : Int) ≤ (ns.length : Nat)) = false := decide_eq_false (by omega)
      have g2 : decide (1000 ≤ ns.length) = false := decide_eq_false hlen
      by_cases hroom : rm < (wt : Int) + ((bl : Int) + 1)
      · have g3 : decide (rm < (wt : Int) + ((bl : Int) + 1)) = true := decide_eq_true hroom
        have HS1 : Hid (st = (15, ns.map toE, clk)) := by show _ = _; rw [HS0.out]; exact if_neg fun hh => by omega
        go_upto_region 20 with fail
        go_quiet ((go_at_call 34; exact Calls.quiet_of_same (qw _)))
        go_wp2_with fail
        refine bodyPost_ret (v := .int .i64 15) (by simp [results, Tryz.results41, go_sem]) rfl ?_
        rw [HS1.out]
        exact rf_same H.out (HBw.out.trans (below_drewn _)) 15
      · have g3 : decide (rm < (wt : Int) + ((bl : Int) + 1)) = false := decide_eq_false hroom
        have HS1 : Hid (st = (0, put (ns.map toE) c ⟨false, clk + 1, bs⟩, clk + 1)) := by show _ = _; rw [HS0.out]; exact if_pos ⟨by omega, by omega⟩
        have hR1 := HR2.out.at_
        have f1 : w2.frozen? ⟨R, 1, none⟩ = false := Lib.frozen_of_heap hR1.rb 1
        have hck0 := H.out.c0
        have hck1 := H.out.c1
        have hwr : IntKind.i64.wrap (clk + 1) = clk + 1 := i64_id _ (by omega)
        go_upto_region 20 with fail
        go_quiet ((go_at_call 34; exact Calls.quiet_of_same (qw _)))
        go_upto_region 24 with fail
        generalize hW2 : World.setCell _ _ _ = W2
        have hR1' : RfAt w2 (fun i => S i ∨ w.heap.size ≤ i) R (.slice va ns.length vc) ns clk rm := hR1.mono fun _ hi => .inl hi
        have hR2 : RfAt W2 (fun i => S i ∨ w.heap.size ≤ i) R (.slice va ns.length vc) ns (clk + 1) rm := by rw [← hW2]; exact ((hR1'.below (below_drewn _)).clock _).1
        have hT2 : Turn S w2 W2 := by rw [← hW2]; exact (Turn.of_below (below_drewn _)).trans' ((hR1.below (below_drewn _)).clock _).2
        have hd3 : Dat W2 (.slice v2a bl v2c) bs := by
          rw [← hW2]
          exact HD2.out.kept fun g hg => Below.heap_setCell _ ⟨R, 1, none⟩ _ g (dat_ne_rb HD2.out hR1.rb g hg)
        have q2 := rput_any (fun i => S i ∨ w.heap.size ≤ i) R _ ns ⟨c, .slice v2a bl v2c, ⟨false, clk + 1, bs⟩⟩ (clk + 1) rm W2 hR2 H.out.gd.srt H.out.len hd3 (fun g hg => .inr (Nat.le_trans HB1.out.size (HOW.out g hg))) HNN.out.2.1
        have d1 : W2.cell? ⟨R, 1, none⟩ = some (.int .i64 (clk + 1)) := by have := hR2.rb; unfold Rb at this; rw [Lib.cell_of_heap this]; rfl
        have HT2 := hide' ((Turn.of_below (S := S) HBw.out).trans' hT2)
        have hsz2 := (Turn.of_below (S := S) HBw.out).trans' hT2 |>.size
        clear hR2 hT2 hW2 c0 c1 c2 f1 qw hwr hd3 hR1 hR1'
        go_wp2_with fail
        refine q2.mono ?_
        rintro r w3 ⟨rfl, v', ns', S', hR3, hm3, hT3, hS3⟩
        have HE : Hid (RfOut S R rm w (.returned (.int .i64 0)) w3 st) := by
          show RfOut _ _ _ _ _ _ _
          rw [HS1.out]
          exact ⟨rfl, v', ns', S', hR3, hm3, HT2.out.trans hT3 (fun i hi => hi), fun i hi => (hS3 i hi).elim id fun h => .inr (Nat.le_trans hsz2 h)⟩
        clear q2 hR3 hm3 hT3 hS3 d1
        dsimp only
        go_wp2_with fail
        refine bodyPost_ret (v := .int .i64 0) (by simp [results, Tryz.results41, go_sem]) rfl ?_
        exact HE.out
end Go.Proofs.YtpbfhbnkalambaaGreatDoor
