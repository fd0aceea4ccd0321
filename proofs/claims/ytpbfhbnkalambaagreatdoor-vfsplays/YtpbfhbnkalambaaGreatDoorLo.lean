/- The contract of anvillaw5.looks: both answer alike. -/
import Derived.Test.YtpbfhbnkalambaaGreatDoorZc
import Derived.Test.YtpbfhbnkalambaaGreatDoorZj
import Derived.Test.YtpbfhbnkalambaaGreatDoorZt
import Derived.Lib.QuietBelow
import Derived.Laws.StructEq
namespace Go.Proofs.YtpbfhbnkalambaaGreatDoor
open Go.RowKit Go.Maps Go.Sort

theorem readR_len {T : Tr} {clk : Int} (h : Gd T clk) {p bs : Bs} (hr : readR T p = .inr bs) : bs.length ≤ 65536 := by
  unfold readR at hr
  cases hk : lookN T p with
  | bad m => rw [hk] at hr; cases hr
  | non => rw [hk] at hr; cases hr
  | rt => rw [hk] at hr; cases hr
  | is n =>
    rw [hk] at hr
    simp only at hr
    split at hr
    · cases hr
    · cases hr
      exact (h.dat _ (fnd_mem (lookN_is hk).2.1)).2
theorem stat_fields : ((Tryz.prog.fieldsOf 51).toList.map fun f => (decide (f.name = "_"), f.type, f.offset)) = [(false, 3, 0), (false, 3, 1), (false, 3, 2)] := by kernel_rfl
theorem stat_eq (x : Int × Int × Int) (W : World) : (binOp .eql 51 (statV x) (statV x)).run Tryz.prog W = .ok (.bool true) W := by
  obtain ⟨a, b, c⟩ := x
  unfold statV
  have p0 : (part 3 #[.int .i64 a, .int .i64 b, .int .i64 c] 0).run Tryz.prog W = .ok (.int .i64 a) W := by kernel_rfl
  have p1 : (part 3 #[.int .i64 a, .int .i64 b, .int .i64 c] 1).run Tryz.prog W = .ok (.int .i64 b) W := by kernel_rfl
  have p2 : (part 3 #[.int .i64 a, .int .i64 b, .int .i64 c] 2).run Tryz.prog W = .ok (.int .i64 c) W := by kernel_rfl
  have e : ∀ n, (Op.equalIn 9999 3 (.int .i64 n) (.int .i64 n)).run Tryz.prog W = .ok true W := fun n => by
    rw [run_equalIn_int W 9998 3 .i64 .i64 n n Tryz.underlying3]
    simp
  rw [run_eql_struct, run_equalIn_struct W 9999 51 _ _ (by kernel_rfl) (by kernel_rfl)]
  have hf := stat_fields
  generalize (Tryz.prog.fieldsOf 51).toList = l at hf
  have hl : l.length = 3 := by have := congrArg List.length hf; simpa using this
  obtain ⟨f0, f1, f2, rfl⟩ : ∃ f0 f1 f2, l = [f0, f1, f2] := by
    rcases l with _ | ⟨f0, _ | ⟨f1, _ | ⟨f2, _ | ⟨f3, r⟩⟩⟩⟩
    · simp at hl
    · simp at hl
    · simp at hl
    · exact ⟨_, _, _, rfl⟩
    · simp at hl
  simp only [List.map_cons, List.map_nil, List.cons.injEq, Prod.mk.injEq, decide_eq_false_iff_not, and_true] at hf
  obtain ⟨⟨n0, t0, o0⟩, ⟨n1, t1, o1⟩, ⟨n2, t2, o2⟩⟩ := hf
  simp [Op.eqFields, n0, t0, o0, n1, t1, o1, n2, t2, o2, p0, p1, p2, e]
theorem list_len {T : Tr} {clk : Int} (h : Gd T clk) {p : Bs} {K : List Bs} (hu : Up K) (hm : ∀ y, y ∈ K ↔ y ∈ kidNames T p) : K = (kidNames T p).mergeSort fun x y => decide (x ≤ y) :=
  up_unique K _ hu (ms_up (kids_nodup h.srt p h.val)) fun y => by rw [List.mem_mergeSort]; exact hm y
/-- two lists of names, the first from k on, the second whole -/
def LpAt (W : World) (al am : Option Addr) (K : List Bs) (k b : Nat) : Prop := ∀ j (hj : j < K.length), ∃ (gl gm : Nat) (cur : Array Value), al = some ⟨gl, 0, none⟩ ∧ am = some ⟨gm, 0, none⟩ ∧ gl ≠ gm ∧ b ≤ gl ∧ W.heap[gl]? = some (.cells cur 9 (0, 0)) ∧ (k ≤ j → cur[j]? = some (.string (mk K[j]))) ∧ W.cell? ⟨gm, j, none⟩ = some (.string (mk K[j]))
theorem ls_cell {w : World} {b : Nat} {a : Option Addr} {n c : Nat} {K : List Bs} (h : LsAt w b (.slice a n c) K) {j : Nat} (hj : j < K.length) : ∃ (g : Nat) (cur : Array Value), a = some ⟨g, 0, none⟩ ∧ b ≤ g ∧ g < w.heap.size ∧ w.heap[g]? = some (.cells cur 9 (0, 0)) ∧ cur[j]? = some (.string (mk K[j])) := by
  rcases h with ⟨_, e⟩ | ⟨g, cap, cur, e, hb, hg, h1, h2, h3⟩
  · rw [e] at hj; simp at hj
  · cases e
    refine ⟨g, cur, rfl, hb, lt_of_block hg, hg, ?_⟩
    have hx : (K.map encStr)[j]? = some (.string (mk K[j])) := by rw [List.getElem?_map, List.getElem?_eq_getElem hj]; rfl
    rw [← h3, List.getElem?_take_of_lt hj] at hx
    simpa using hx
theorem LpAt.set {W : World} {al am : Option Addr} {K : List Bs} {k b : Nat} {gl : Nat} {x : Value} (h : LpAt W al am K k b) (hal : al = some ⟨gl, 0, none⟩) : LpAt (W.setCell ⟨gl, k, none⟩ x) al am K (k + 1) b := fun j hj => by
  obtain ⟨g1, g2, cur, e1, e2, hne, hb, hg, hc, hd⟩ := h j hj
  have : g1 = gl := by rw [e1] at hal; cases hal; rfl
  subst this
  refine ⟨g1, g2, _, e1, e2, hne, hb, set_row hg k x, fun hk => ?_, ?_⟩
  · rw [Array.getElem?_setIfInBounds_ne (by omega)]
    exact hc (by omega)
  · rw [← hd]
    exact World.cell?_of_block (a := ⟨g2, j, none⟩) (Below.heap_setCell W ⟨g1, k, none⟩ x g2 (by simpa using Ne.symm hne))
theorem LpAt.keep {W W' : World} {al am : Option Addr} {K : List Bs} {k b : Nat} (h : LpAt W al am K k b) (hb : Below W.heap.size W W') : LpAt W' al am K k b := fun j hj => by
  obtain ⟨g1, g2, cur, e1, e2, hne, hbb, hg, hc, hd⟩ := h j hj
  exact ⟨g1, g2, cur, e1, e2, hne, hbb, (hb.block g1 (lt_of_block hg)).trans hg, hc, (hb.cell (p := ⟨g2, j, none⟩) (World.block_lt_of_cell? _ _ hd)).trans hd⟩
set_option maxRecDepth 100000 in
set_option maxHeartbeats 8000000 in
theorem looks_any (B lo A R : Nat) (E : Addr) (Sf Sr : Nat → Prop) (v : Value) (ns : List Nv) (clk rm : Int) (kd : Int) (P Q : ByteArray) (ba : Option Addr) (bl bc : Nat) (w : World) (h : BothAt w lo Sf Sr A R v ns clk rm) (hG : Glo B w E) (hB : B ≤ w.heap.size)
    (hP : P.size ≤ 200000) (hQ : Q.size ≤ 200000) :
    Calls Tryz.prog 20 #[.pointer (some ⟨A, 0, none⟩), .pointer (some ⟨R, 0, none⟩), .agg #[.int .i64 kd, .string P, .string Q, .slice ba bl bc]] w fun r w' => r = .returned (.bool true) ∧ Below w.heap.size w w' := by
  obtain ⟨w0, hw0⟩ : ∃ w0, w0 = w.alloc (.cells #[.int .i64 kd, .string P, .string Q, .slice ba bl bc] 45) := ⟨_, rfl⟩
  have hb0 : Below w.heap.size w w0 := by rw [hw0]; exact (Below.refl _ _).alloc (Nat.le_refl _) _
  have z0 : w0.heap[w.heap.size]? = some (.cells #[.int .i64 kd, .string P, .string Q, .slice ba bl bc] 45 (0, 0)) := by rw [hw0]; exact alloc_new _ _
  have hs0 : w.heap.size < w0.heap.size := by rw [hw0]; simp
  have p1 : w0.cell? ⟨w.heap.size, 1, none⟩ = some (.string P) := by rw [Lib.cell_of_heap z0]; rfl
  have hbox : ∀ W, Below w0.heap.size w0 W → W.cell? ⟨w.heap.size, 1, none⟩ = some (.string P) ∧ W.cell? ⟨w.heap.size, 2, none⟩ = some (.string Q) := fun W hb => by
    have z := (hb.block w.heap.size hs0).trans z0
    exact ⟨by rw [Lib.cell_of_heap z]; rfl, by rw [Lib.cell_of_heap z]; rfl⟩
  have HBX := hide' hbox
  have HB0 := hide' hb0
  have H := hide' h
  have HG := hide' hG
  have HW0 := hide' hw0
  have hdF : ∀ e ∈ ns.map toE, e.2.data.length ≤ 1000000 := fun e he => by have := (h.rf.gd.dat e he).2; omega
  have hB0n : ∀ m, lookN (ns.map toE) (clean (tl P)) = .bad m → m ≠ 0 := fun m e => by have := lookN_bad e; omega
  have q1 := Read_any B A E (ns.map toE) clk rm P Sf w0 (h.fs.below hb0) (hG.keep (hb0.mono hB)) (Nat.le_trans hB hb0.size) (by omega) hdF
  have q2 := fun W (hb : Below w0.heap.size w0 W) => rread_any R v ns clk rm P W (h.rf.below (hb0.trans (hb.mono hb0.size))).at_.rb (h.rf.below (hb0.trans (hb.mono hb0.size))).at_.nodes h.rf.gd.srt h.rf.len (by omega) h.rf.data hB0n
  have HQ2 := hide' q2
  have hrl : ∀ bs, readR (ns.map toE) (clean (tl P)) = .inr bs → bs.length ≤ 65536 := fun bs e => readR_len h.rf.gd e
  generalize hrr : readR (ns.map toE) (clean (tl P)) = rr at q1 HQ2 hrl
  clear hw0 h hG hb0 z0 hbox hdF hB0n q2 hrr
  go_enter Tryz.func20, Tryz.ntmps20
  go_upto_region 1 with fail
  rw [← HW0.out]
  clear HW0
  go_wp2_with fail
  refine q1.mono ?_
  rintro r w1 ⟨hb1, bv1, er1, rfl, hm1⟩
  have q2 := HQ2.out w1 hb1
  have p2 := (HBX.out w1 hb1).1
  have HB1 := hide' hb1
  clear q1 hb1 HQ2 p1
  dsimp only
  go_wp2_with fail
  refine q2.mono ?_
  rintro r w2 ⟨hb2, bv2, er2, rfl, hm2⟩
  have HB2 := hide' (HB1.out.trans (hb2.mono HB1.out.size))
  obtain ⟨bs, ga, n1, c1, a2, c2, rfl, rfl, rfl, hbn, hr1, hr2, hD1⟩ : ∃ (bs : Bs) (ga : Option Addr) (n1 c1 : Nat) (a2 : Option Addr) (c2 : Nat), bv1 = .slice ga n1 c1 ∧ bv2 = .slice a2 n1 c2 ∧ er2 = er1 ∧ n1 ≤ 1000000 ∧ Rds w2 (.slice ga n1 c1) bs ∧ Rds w2 (.slice a2 n1 c2) bs ∧ DatB w2 (fun g => w0.heap.size ≤ g) (.slice ga n1 c1) := by
    cases rr with
    | inl m =>
      obtain ⟨rfl, rfl⟩ := hm1
      obtain ⟨rfl, rfl⟩ := hm2
      exact ⟨[], none, 0, 0, none, 0, rfl, rfl, rfl, by omega, .inl ⟨rfl, rfl⟩, .inl ⟨rfl, rfl⟩, .inl rfl⟩
    | inr bs =>
      obtain ⟨d1, rfl, o1⟩ := hm1
      obtain ⟨d2, rfl, o2⟩ := hm2
      obtain ⟨x1, y1, rfl⟩ := d1.len
      obtain ⟨x2, y2, rfl⟩ := d2.len
      have d1' : Dat w2 (.slice x1 bs.length y1) bs := d1.kept fun g hg => hb2.block g (d1.lt g hg)
      refine ⟨bs, x1, bs.length, y1, x2, y2, rfl, rfl, rfl, ?_, d1'.rds, d2.rds, d1'.datB o1 ?_⟩
      · have := hrl bs rfl; omega
      · have := hrl bs rfl; omega
  have hca := rds_str hr1
  have hcb := rds_str hr2
  have e1 : (bs == bs) = true := by simp
  have HD1 := hide' hD1
  clear hm1 hm2 hrl q2 hb2 hr1 hr2 hD1 p2
  dsimp only
  go_wp2_with (go_at_call 13; refine (num_any _ _).mono ?_; rintro r w3 ⟨rfl, rfl⟩)
  go_loopw [12] (fun i wr => ∃ k : Nat, k ≤ n1 ∧ i = .int .i64 k ∧ Hid (DatB wr (fun g => w0.heap.size ≤ g) (.slice ga n1 c1)) ∧ Hid (Below w0.heap.size w0 wr)) (fun i _ => n1 - (intOf i).toNat)
  case atStart => exact ⟨0, Nat.zero_le _, rfl, HD1, HB2⟩
  case round =>
    obtain ⟨k, hk, rfl, HDk, HBk⟩ := hrel
    clear hca hcb
    by_cases hkl : k < n1
    · have k2 : (k : Int) < n1 := by omega
      rcases HDk.out with e | ⟨g', n', cap', cur, e, h1, h2, h3, h4⟩
      · cases e; omega
      · cases e
        obtain ⟨x, hx⟩ := h4 k hkl
        have d1 : wr.cell? ⟨g', k, none⟩ = some (.int .u8 (x.toNat : Nat)) := by rw [Lib.cell_of_heap h2]; exact hx
        have f1 := Lib.frozen_of_heap h2 k
        have HH := hide' h1
        clear h4 h2 h3 hx h1
        go_wp2_with fail
        obtain ⟨y, hy⟩ := xor_byte x
        rw [hy]
        exact ⟨⟨k + 1, by omega, by simp, hide' HDk.out.set, hide' (HBk.out.setCell (p := ⟨g', k, none⟩) HH.out _)⟩, by simp [intOf]; omega⟩
    · obtain rfl : k = n1 := by omega
      have k2 : ¬ (k : Int) < k := by omega
      obtain ⟨wo, rfl⟩ : ∃ wo, wo = wr := ⟨_, rfl⟩
      have hBw : Below w.heap.size w wo := HB0.out.trans (HBk.out.mono HB0.out.size)
      have p3 := (HBX.out wo HBk.out).1
      have q3 := List_any B A E (ns.map toE) clk rm P Sf wo (H.out.fs.below hBw) (HG.out.keep (hBw.mono hB)) (Nat.le_trans hB hBw.size) (by omega) H.out.rf.gd.val
      have HQ4 := hide' (fun W (hb : Below w.heap.size w W) => rlist_any Sr R v ns clk rm P W (H.out.rf.below hb) (by omega))
      have HBW := hide' hBw
      generalize hcl : clean (tl P) = cP at q3 HQ4
      generalize hlr : listR (ns.map toE) cP = lr at q3 HQ4
      clear HDk hBw hlr
      go_wp2_with fail
      refine q3.mono ?_
      rintro r w3 ⟨hb3, v3, er3, rfl, hm3⟩
      have HB3 := hide' (HBk.out.trans (hb3.mono HBk.out.size))
      have q4 := HQ4.out w3 (HBW.out.trans (hb3.mono HBW.out.size))
      have p4 := (HBX.out w3 HB3.out).1
      clear q3 HQ4 p3
      dsimp only
      go_wp2_with fail
      refine q4.mono ?_
      intro r w4 hv4
      obtain ⟨hb4, v4, er4, rfl, hm4⟩ := hv4.w
      clear hv4
      obtain ⟨K, al, cl, am, cm, rfl, rfl, rfl, hKl, hlp⟩ : ∃ (K : List Bs) (al : Option Addr) (cl : Nat) (am : Option Addr) (cm : Nat), v3 = .slice al K.length cl ∧ v4 = .slice am K.length cm ∧ er4 = er3 ∧ K.length ≤ 1000 ∧ LpAt w4 al am K 0 w0.heap.size := by
        cases lr with
        | some m =>
          obtain ⟨rfl, rfl⟩ := hm3
          obtain ⟨rfl, rfl⟩ := hm4
          exact ⟨[], none, 0, none, 0, rfl, rfl, rfl, by simp, fun j hj => by simp at hj⟩
        | none =>
          obtain ⟨rfl, K, hl3, hu3, hi3⟩ := hm3
          obtain ⟨rfl, K', hl4, hu4, hi4⟩ := hm4
          have eK := list_len H.out.rf.gd hu3 hi3
          have eK' := list_len H.out.rf.gd hu4 hi4
          rw [← eK] at eK'
          rw [eK'] at hl4
          clear eK' hu4 hi4
          have hlen : K.length ≤ 1000 := by
            rw [eK, List.length_mergeSort]
            refine Nat.le_trans (List.length_filterMap_le _ _) ?_
            rw [List.length_map, List.length_map]
            exact H.out.rf.len
          have hl34 := hl3.below hb4
          have f3 : ∃ al cl, v3 = .slice al K.length cl := by
            rcases hl3 with ⟨rfl, rfl⟩ | ⟨g, cap, cur, rfl, _⟩
            · exact ⟨_, _, rfl⟩
            · exact ⟨_, _, rfl⟩
          have f4 : ∃ al cl, v4 = .slice al K.length cl := by
            rcases hl4 with ⟨rfl, rfl⟩ | ⟨g, cap, cur, rfl, _⟩
            · exact ⟨_, _, rfl⟩
            · exact ⟨_, _, rfl⟩
          obtain ⟨al, cl, rfl⟩ := f3
          obtain ⟨am, cm, rfl⟩ := f4
          refine ⟨K, al, cl, am, cm, rfl, rfl, rfl, hlen, fun j hj => ?_⟩
          obtain ⟨g1, _, e1, b1, l1, _, _⟩ := ls_cell hl3 hj
          obtain ⟨g1', cur, e1', _, _, hg, cx⟩ := ls_cell hl34 hj
          obtain ⟨g2, cur2, e2, b2, l2, hg2, cy⟩ := ls_cell hl4 hj
          have : g1' = g1 := by rw [e1] at e1'; cases e1'; rfl
          subst this
          exact ⟨g1', g2, cur, e1, e2, by omega, Nat.le_trans HBk.out.size b1, hg, fun _ => cx, by rw [Lib.cell_of_heap hg2]; exact cy⟩
      have HLP := hide' hlp
      have HB4 := hide' (HB3.out.trans (hb4.mono HB3.out.size))
      clear hm3 hm4 hlp q4 hb3 hb4 p4
      dsimp only
      go_wp2_with (go_at_call 13; refine (num_any _ _).mono ?_; rintro r w5 ⟨rfl, rfl⟩)
      clear e1
      go_loopw [11, 17] (fun sm i wr => ∃ k : Nat, k ≤ K.length ∧ i = .int .i64 k ∧ sm = .bool true ∧ Hid (LpAt wr al am K k w0.heap.size) ∧ Hid (Below w0.heap.size w0 wr)) (fun _ i _ => K.length - (intOf i).toNat)
      case atStart => exact ⟨0, Nat.zero_le _, rfl, rfl, HLP, HB4⟩
      case round =>
        obtain ⟨k, hk, rfl, rfl, HLk, HBr⟩ := hrel
        by_cases hkl : k < K.length
        · have k3 : (k : Int) < K.length := by omega
          obtain ⟨gl, gm, cur, hal, ham, hne, hbb, hg, hc, hd⟩ := HLk.out k hkl
          have d1 : wr.cell? ⟨gl, k, none⟩ = some (.string (mk K[k])) := by rw [Lib.cell_of_heap hg]; exact hc (Nat.le_refl _)
          have f1 := Lib.frozen_of_heap hg k
          have e2 : (K[k] == K[k]) = true := by simp
          have HH := hide' (And.intro True.intro hbb)
          clear hg hc hbb hne
          subst hal ham
          generalize K[k] = x at *
          go_wp2_with fail
          go_quiet (fail)
          go_wp2_with fail
          exact ⟨⟨k + 1, by omega, by simp, rfl, hide' ((HLk.out.keep (below_drewn _)).set rfl), hide' ((HBr.out.trans ((below_drewn (B := wr.heap.size) _).mono HBr.out.size)).setCell (p := ⟨gl, k, none⟩) HH.out.2 _)⟩, by simp [intOf]; omega⟩
        · obtain rfl : k = K.length := by omega
          have k3 : ¬ (K.length : Int) < K.length := by omega
          have hBz : Below w.heap.size w wr := HB0.out.trans (HBr.out.mono HB0.out.size)
          obtain ⟨x1, x2⟩ := HBX.out wr HBr.out
          have y1 := fun d os => cell_regrown x1 d os
          have y2 := fun d os => cell_regrown x2 d os
          have hGW : ∀ W, Below wr.heap.size wr W → Below w.heap.size w W := fun W hb => hBz.trans (hb.mono hBz.size)
          have qf := fun (s : ByteArray) (hs : s.size ≤ 400000) d os => Stat_any B A E (ns.map toE) clk rm s Sf (grow (redrawn wr d) os) (H.out.fs.below (hGW _ (below_regrown wr d os))) (HG.out.keep ((hGW _ (below_regrown wr d os)).mono hB)) (Nat.le_trans hB (hGW _ (below_regrown wr d os)).size) hs
          have qr := fun (s : ByteArray) (hs : s.size ≤ 300000) d os => rstat_any R v ns clk rm s (grow (redrawn wr d) os) (H.out.rf.below (hGW _ (below_regrown wr d os))).at_.rb (H.out.rf.below (hGW _ (below_regrown wr d os))).at_.nodes H.out.rf.gd.srt H.out.rf.len hs
          have qfP := qf P (by omega)
          have qfQ := qf Q (by omega)
          have qrP := qr P (by omega)
          have qrQ := qr Q (by omega)
          have sP := stat_eq (statR (ns.map toE) (clean (tl P)))
          have sQ := stat_eq (statR (ns.map toE) (clean (tl Q)))
          generalize statR (ns.map toE) (clean (tl P)) = xP at qfP qrP sP
          generalize statR (ns.map toE) (clean (tl Q)) = xQ at qfQ qrQ sQ
          obtain ⟨a1, a2, a3⟩ := xP
          obtain ⟨b1, b2, b3⟩ := xQ
          simp only [statV] at qfP qrP qfQ qrQ sP sQ
          have HBZ := hide' hBz
          clear qf qr hGW hBz x1 x2 HLk HLP
          go_upto_region 16 with fail
          refine wp_region_quiet_below (by kernel_rfl) (by kernel_rfl) ?_
          repeat (go_big_quiet_step (fail))
          go_big_quiet_step ((go_at_call 27; exact Calls.regrown_of (qfP _ _)))
          repeat (go_big_quiet_step (fail))
          go_big_quiet_step ((go_at_call 50; exact Calls.regrown_of (qrP _ _)))
          repeat (go_big_quiet_step (fail))
          go_big_quiet_step ((go_at_call 27; exact Calls.regrown_of (qfQ _ _)))
          repeat (go_big_quiet_step (fail))
          go_big_quiet_step ((go_at_call 50; exact Calls.regrown_of (qrQ _ _)))
          repeat (go_big_quiet_step (fail))
          refine wpQuiet_nil ?_
          intro w6 hw6
          have hb6 : Below wr.heap.size wr w6 := by
            obtain ⟨p, rfl⟩ := hw6
            exact below_regrown _ _ _
          have HE := hide' (HBZ.out.trans (hb6.mono HBZ.out.size))
          clear hw6 hb6 qfP qfQ qrP qrQ sP sQ y1 y2
          go_wp2_with fail
          refine bodyPost_ret (v := .bool true) (by simp [results, Tryz.results20, go_sem]) rfl ?_
          exact ⟨rfl, HE.out⟩
end Go.Proofs.YtpbfhbnkalambaaGreatDoor
