import Derived.Test.YtabmnkddmdffkaaGreatDoorARefFairG
import Derived.Deep.CutBlock
namespace Go.Proofs.YtabmnkddmdffkaaGreatDoor
open Go.RowKit Go.Maps
theorem str_nil (p : Bs) (h : p ≠ []) : p.isEmpty = false := by cases p with | nil => exact absurd rfl h | cons _ _ => rfl
theorem lt_of_cell' {w : World} {b o : Nat} {v : Value} (h : w.cell? ⟨b, o, none⟩ = some v) : b < w.heap.size := World.block_lt_of_cell? _ _ h
structure TnC (b R : Nat) (p : ByteArray) (d : Bool) (t : Int) (dv va : Value) (w : World) : Prop where
 c0 : w.cell? ⟨b, 0, none⟩ = some (.string p)
 c1 : w.cell? ⟨b, 1, none⟩ = some (.bool d)
 c2 : w.cell? ⟨b, 2, none⟩ = some (.int .i64 t)
 c3 : w.cell? ⟨b, 3, none⟩ = some dv
 cg : w.cell? ⟨R, 0, none⟩ = some va
set_option maxRecDepth 100000 in
set_option maxHeartbeats 8000000 in
theorem rnew_row (g o cap : Nat) (ns : List Nv) (clk rm : Int) (w : World) (h : NRow w g o ns) (hr : ∀ n ∈ ns, Rds w n.dv n.nd.data) (hl : ns.length ≤ 1000) (hps : ∀ n ∈ ns, n.path.length ≤ 300000) :
  Calls Tryz.prog 8 #[.agg #[.slice (some ⟨g, o, none⟩) ns.length cap, .int .i64 clk, .int .i64 rm]] w fun r w' => RnAt clk rm w r w' (newR ns clk rm) := by
 have k0 : ¬ (1000 : Int) < ns.length := by omega
 have hb0 : Below w.heap.size w (w.alloc (.cells #[.slice (some ⟨g, o, none⟩) ns.length cap, .int .i64 clk, .int .i64 rm] 24)) := (Below.refl _ _).alloc (Nat.le_refl _) _
 have z0 := alloc_new w (.cells #[.slice (some ⟨g, o, none⟩) ns.length cap, .int .i64 clk, .int .i64 rm] 24)
 go_enter Tryz.func8, Tryz.ntmps8
 go_wp2
 obtain ⟨w0, hw0⟩ : ∃ w0, w0 = w.alloc (.cells #[.slice (some ⟨g, o, none⟩) ns.length cap, .int .i64 clk, .int .i64 rm] 24) := ⟨_, rfl⟩
 have hs0 : w0.heap.size = w.heap.size + 1 := by rw [hw0]; simp
 rw [← hw0] at hb0 z0 ⊢
 clear hw0
 have a0 : w0.cell? ⟨w.heap.size, 0, none⟩ = some (.slice (some ⟨g, o, none⟩) ns.length cap) := by rw [Lib.cell_of_heap z0]; rfl
 have a1 : w0.cell? ⟨w.heap.size, 1, none⟩ = some (.int .i64 clk) := by rw [Lib.cell_of_heap z0]; rfl
 have a2 : w0.cell? ⟨w.heap.size, 2, none⟩ = some (.int .i64 rm) := by rw [Lib.cell_of_heap z0]; rfl
 go_loopw [4] (fun i wr => ∃ k : Nat, k ≤ ns.length ∧ i = .int .i64 k ∧ (ns.take k).any long = false ∧ wr = w0) (fun i _ => ns.length - (intOf i).toNat)
 case atStart => exact ⟨0, by omega, rfl, rfl, rfl⟩
 case round =>
  obtain ⟨k, hk, rfl, hno, rfl⟩ := hrel
  by_cases hkl : k < ns.length
  ·have k1 : (k : Int) < ns.length := by omega
   obtain ⟨n, hn⟩ : ∃ n, ns[k]? = some n := ⟨_, List.getElem?_eq_getElem hkl⟩
   have hR := h.below hb0
   have d1 := hR.c1 k n hn
   have d3 := hR.c3 k n hn
   have hmem := List.mem_of_getElem? hn
   obtain ⟨da, dc, hdv⟩ := (hr n hmem).len
   rw [hdv] at d3
   have htk : (ns.take (k + 1)).any long = long n := by rw [List.take_add_one, List.any_append, hno, hn]; simp
   clear hR h hr
   cases hdir : n.nd.dir with
   | true =>
    rw [hdir] at d1
    have hlo : long n = false := by unfold long; rw [hdir]; rfl
    go_wp2
    exact ⟨⟨k + 1, by omega, by simp, by rw [htk, hlo], trivial⟩, by simp [intOf]; omega⟩
   | false =>
    rw [hdir] at d1
    by_cases hdl : 65536 < n.nd.data.length
    ·have hlo : long n = true := by unfold long; rw [hdir, decide_eq_true hdl]; rfl
     have k3 : (65536 : Int) < n.nd.data.length := by omega
     go_wp2
     go_ret2
     have e : newR ns clk rm = .inl (.no 2) := by unfold newR lenR; rw [if_pos (.inr (List.any_eq_true.2 ⟨n, hmem, hlo⟩))]
     rw [e]
     exact ⟨hb0, rfl⟩
    ·have hlo : long n = false := by unfold long; rw [hdir, decide_eq_false hdl]; rfl
     have k3 : ¬ (65536 : Int) < n.nd.data.length := by omega
     go_wp2
     exact ⟨⟨k + 1, by omega, by simp, by rw [htk, hlo], trivial⟩, by simp [intOf]; omega⟩
  ·obtain rfl : k = ns.length := by omega
   rw [List.take_length] at hno
   have k1 : ¬ (ns.length : Int) < ns.length := by omega
   have hlr : lenR ns = .ok := by unfold lenR; rw [if_neg (by rintro (h | h); omega; rw [hno] at h; cases h)]
   by_cases hok : okTree clk rm
   ·obtain ⟨o1, o2, o3, o4⟩ := hok
    have n1 : ¬ clk < 0 := by omega
    have n2 : ¬ 1099511627776 < clk := by omega
    have n3 : ¬ rm < 0 := by omega
    have n4 : ¬ 1048576 < rm := by omega
    go_wp2
    obtain ⟨W1, hW1⟩ : ∃ W1, W1 = wr.alloc (.cells #[.slice none 0 0, .int .i64 clk, .int .i64 rm] 66) := ⟨_, rfl⟩
    have hb1 : Below wr.heap.size wr W1 := by rw [hW1]; exact (Below.refl _ _).alloc (Nat.le_refl _) _
    have z1 : W1.heap[w.heap.size + 1]? = some (.cells #[.slice none 0 0, .int .i64 clk, .int .i64 rm] 66 (0, 0)) := by rw [hW1, ← hs0]; exact alloc_new _ _
    have hs1 : W1.heap.size = w.heap.size + 2 := by rw [hW1]; simp [hs0]
    rw [← hW1]
    clear hW1
    have zt := (hb1.block w.heap.size (by omega)).trans z0
    have hB1 : Below w.heap.size w W1 := hb0.trans (hb1.mono hb0.size)
    clear a0 a1 a2 n1 n2 n3 n4
    go_loopw [6] (fun i wr => ∃ (k : Nat) (va : Value) (ms : List Nv) (ah : Bs), k ≤ ns.length ∧ i = .int .i64 k ∧ plantR clk (ns.take k) = some (ah, ms.map toE) ∧ (∀ j n, k = j + 1 → ns[j]? = some n → ah = n.path) ∧ (k = 0 → ah = []) ∧ wr.heap[w.heap.size + 1]? = some (.cells #[va, .int .i64 clk, .int .i64 rm] 66 (0, 0)) ∧ wr.ownsRow W1.heap.size 60 4 va ms.length (flat ms) ∧
      (∀ n ∈ ms, Dat wr n.dv n.nd.data ∧ ∀ g, n.dv.ownBlock = some g → W1.heap.size ≤ g) ∧ ms.length = k ∧ Turn (fun i => i = w.heap.size + 1) W1 wr) (fun i _ => ns.length - (intOf i).toNat)
    case atStart => exact ⟨0, .slice none 0 0, [], [], Nat.zero_le _, rfl, rfl, fun j n e => by omega, fun _ => rfl, z1, World.ownsRow_nil _ _ _ _, fun n hn => (by cases hn), rfl, Turn.refl _ _⟩
    case round =>
     obtain ⟨k, va, ms, ah, hk, rfl, hpl, hah, hah0, hRb, hown, hdat, hmk, htn⟩ := hrel
     have hsz := htn.size
     have hBr : Below w.heap.size w wr := hB1.trans (htn.below hB1.size (fun i hi => by omega))
     have ztr := (htn.block w.heap.size (by omega) (by omega)).trans zt
     by_cases hkl : k < ns.length
     ·have k1 : (k : Int) < ns.length := by omega
      obtain ⟨n, hn⟩ : ∃ n, ns[k]? = some n := ⟨_, List.getElem?_eq_getElem hkl⟩
      have hR := h.below hBr
      have d0 := hR.c0 k n hn
      have d1 := hR.c1 k n hn
      have d2 := hR.c2 k n hn
      have d3 := hR.c3 k n hn
      have hmem := List.mem_of_getElem? hn
      have hrd := (hr n hmem).below hBr
      obtain ⟨da, dc, hdv⟩ := hrd.len
      rw [hdv] at d3 hrd
      have a0 : wr.cell? ⟨w.heap.size, 0, none⟩ = some (.slice (some ⟨g, o, none⟩) ns.length cap) := by rw [Lib.cell_of_heap ztr]; rfl
      obtain ⟨w2, hw2⟩ : ∃ w2, w2 = wr.alloc (.cells #[.string (mk n.path), .bool n.nd.dir, .int .i64 n.nd.time, .slice da n.nd.data.length dc] 60) := ⟨_, rfl⟩
      have hb2 : Below wr.heap.size wr w2 := by rw [hw2]; exact (Below.refl _ _).alloc (Nat.le_refl _) _
      have z2 : w2.heap[wr.heap.size]? = some (.cells #[.string (mk n.path), .bool n.nd.dir, .int .i64 n.nd.time, .slice da n.nd.data.length dc] 60 (0, 0)) := by rw [hw2]; exact alloc_new _ _
      have hs2 : w2.heap.size = wr.heap.size + 1 := by rw [hw2]; simp
      have hpn := hps n hmem
      have qv := rvalid_any (mk n.path) w2 (by rw [mk_size]; omega)
      obtain ⟨vb, hvl⟩ : ∃ vb, valid n.path = vb := ⟨_, rfl⟩
      rw [tl_mk, hvl] at qv
      have e0 : w2.cell? ⟨wr.heap.size, 0, none⟩ = some (.string (mk n.path)) := by rw [Lib.cell_of_heap z2]; rfl
      go_upto_region 15 with fail
      rw [← hw2]
      clear hw2
      go_wp2_with fail
      refine qv.mono ?_
      rintro r w3 ⟨rfl, hb3⟩
      have hs3 := hb3.size
      have z3 := (hb3.block _ (by omega)).trans z2
      have f0 : w3.cell? ⟨wr.heap.size, 0, none⟩ = some (.string (mk n.path)) := by rw [Lib.cell_of_heap z3]; rfl
      have f1 : w3.cell? ⟨wr.heap.size, 1, none⟩ = some (.bool n.nd.dir) := by rw [Lib.cell_of_heap z3]; rfl
      have f2 : w3.cell? ⟨wr.heap.size, 2, none⟩ = some (.int .i64 n.nd.time) := by rw [Lib.cell_of_heap z3]; rfl
      have f3 : w3.cell? ⟨wr.heap.size, 3, none⟩ = some (.slice da n.nd.data.length dc) := by rw [Lib.cell_of_heap z3]; rfl
      have zt3 := (hb3.block w.heap.size (by omega)).trans ((hb2.block w.heap.size (by omega)).trans ztr)
      have t0 : w3.cell? ⟨w.heap.size, 0, none⟩ = some (.slice (some ⟨g, o, none⟩) ns.length cap) := by rw [Lib.cell_of_heap zt3]; rfl
      have t1 : w3.cell? ⟨w.heap.size, 1, none⟩ = some (.int .i64 clk) := by rw [Lib.cell_of_heap zt3]; rfl
      clear qv e0 d0 d1 d2 d3 a0
      go_upto_region 16 with fail
      go_cut [122] from 63 to 159 (fun c wx => Test c (Fair clk ah n) ∧ ∃ q, wx = w3.drewN q)
      case first =>
       cases vb with
       | false =>
        go_quiet (fail)
        go_wp2_with fail
        go_meet
        case rel => exact ⟨⟨true, rfl, ⟨fun e => (by cases e), fun hf => (by have := hf.val; rw [hvl] at this; cases this)⟩⟩, _, rfl⟩
       | true =>
        by_cases hne : n.path = []
        ·have hnb : n.path.isEmpty = true := by rw [hne]; rfl
         have hnc : (n.path == []) = true := by rw [hne]; rfl
         go_quiet (fail)
         go_wp2_with fail
         go_meet
         case rel => exact ⟨⟨true, rfl, ⟨fun e => (by cases e), fun hf => absurd hne hf.ne⟩⟩, _, rfl⟩
        have hnb : n.path.isEmpty = false := str_nil _ hne
        have hnc : (n.path == []) = false := beq_eq_false_iff_ne.2 hne
        rcases Nat.eq_zero_or_pos k with hk0 | hk0
        ·have hk1 : decide ((0 : Int) < (k : Nat)) = false := decide_eq_false (by omega)
         have hk2 : decide (0 < k) = false := decide_eq_false (by omega)
         have hk3 : ¬ 0 < k := by omega
         have hup : bytesBefore ah n.path = true := by rw [hah0 hk0]; cases hq : n.path with | nil => exact absurd hq hne | cons _ _ => rfl
         clear hah hah0 hk0
         by_cases t4 : n.nd.time < 0
         ·have t4b : decide (n.nd.time < 0) = true := decide_eq_true t4
          go_quiet (fail)
          go_wp2_with fail
          go_meet
          case rel => exact ⟨⟨true, rfl, ⟨fun e => (by cases e), fun hf => (by have := hf.t0; omega)⟩⟩, _, rfl⟩
         have t4b : decide (n.nd.time < 0) = false := decide_eq_false t4
         by_cases t5 : clk < n.nd.time
         ·have t5b : decide (clk < n.nd.time) = true := decide_eq_true t5
          go_quiet (fail)
          go_wp2_with fail
          go_meet
          case rel => exact ⟨⟨true, rfl, ⟨fun e => (by cases e), fun hf => (by have := hf.t1; omega)⟩⟩, _, rfl⟩
         have t5b : decide (clk < n.nd.time) = false := decide_eq_false t5
         cases t6 : n.nd.dir with
         | true =>
          rw [t6] at f1
          by_cases t7 : n.nd.data = []
          ·have t7b : decide ((0 : Int) < (n.nd.data.length : Nat)) = false := decide_eq_false (by rw [t7]; simp)
           go_quiet (fail)
           go_wp2_with fail
           go_meet
           case rel => exact ⟨⟨false, rfl, ⟨fun _ => ⟨hvl, hne, hup, by omega, by omega, fun _ => t7⟩, fun _ => rfl⟩⟩, _, rfl⟩
          ·have t7b : decide ((0 : Int) < (n.nd.data.length : Nat)) = true := decide_eq_true (by have := List.length_pos_iff.2 t7; omega)
           go_quiet (fail)
           go_wp2_with fail
           go_meet
           case rel => exact ⟨⟨true, congrArg Value.bool (decide_eq_true (List.length_pos_iff.2 t7)), ⟨fun e => (by cases e), fun hf => absurd (hf.dat t6) t7⟩⟩, _, rfl⟩
         | false =>
          rw [t6] at f1
          go_quiet (fail)
          go_wp2_with fail
          go_meet
          case rel => exact ⟨⟨false, rfl, ⟨fun _ => ⟨hvl, hne, hup, by omega, by omega, fun e => (by rw [t6] at e; cases e)⟩, fun _ => rfl⟩⟩, _, rfl⟩
        ·have hk1 : decide ((0 : Int) < (k : Nat)) = true := decide_eq_true (by omega)
         have hk2 : decide (0 < k) = true := decide_eq_true (by omega)
         have hk3 : 0 < k := by omega
         obtain ⟨j, hj⟩ : ∃ j, k = j + 1 := ⟨k - 1, by omega⟩
         obtain ⟨m, hm⟩ : ∃ m, ns[j]? = some m := ⟨_, List.getElem?_eq_getElem (by omega)⟩
         obtain rfl := hah j m hj hm
         have hB3 : Below w.heap.size w w3 := hBr.trans ((hb2.mono hBr.size).trans (hb3.mono (Nat.le_trans hBr.size hb2.size)))
         have d0' := (h.below hB3).c0 j m hm
         have hkm : (k : Int) - 1 = j := by omega
         have hjl : (j : Int) < ns.length := by omega
         clear hj hk0 hah hah0 hm
         cases hup : bytesBefore m.path n.path with
         | false =>
          have hl1 : Op.bytesLess (mk m.path).toList (mk n.path).toList = false := by rw [mk_toList, mk_toList, less_before]; exact hup
          have hl2 : Op.bytesLess m.path n.path = false := by rw [less_before]; exact hup
          go_quiet (fail)
          go_wp2_with fail
          go_meet
          case rel => exact ⟨⟨true, rfl, ⟨fun e => (by cases e), fun hf => (by have := hf.up; rw [hup] at this; cases this)⟩⟩, _, rfl⟩
         | true =>
          have hl1 : Op.bytesLess (mk m.path).toList (mk n.path).toList = true := by rw [mk_toList, mk_toList, less_before]; exact hup
          have hl2 : Op.bytesLess m.path n.path = true := by rw [less_before]; exact hup
          by_cases t4 : n.nd.time < 0
          ·have t4b : decide (n.nd.time < 0) = true := decide_eq_true t4
           go_quiet (fail)
           go_wp2_with fail
           go_meet
           case rel => exact ⟨⟨true, rfl, ⟨fun e => (by cases e), fun hf => (by have := hf.t0; omega)⟩⟩, _, rfl⟩
          have t4b : decide (n.nd.time < 0) = false := decide_eq_false t4
          by_cases t5 : clk < n.nd.time
          ·have t5b : decide (clk < n.nd.time) = true := decide_eq_true t5
           go_quiet (fail)
           go_wp2_with fail
           go_meet
           case rel => exact ⟨⟨true, rfl, ⟨fun e => (by cases e), fun hf => (by have := hf.t1; omega)⟩⟩, _, rfl⟩
          have t5b : decide (clk < n.nd.time) = false := decide_eq_false t5
          cases t6 : n.nd.dir with
          | true =>
           rw [t6] at f1
           by_cases t7 : n.nd.data = []
           ·have t7b : decide ((0 : Int) < (n.nd.data.length : Nat)) = false := decide_eq_false (by rw [t7]; simp)
            go_quiet (fail)
            go_wp2_with fail
            go_meet
            case rel => exact ⟨⟨false, rfl, ⟨fun _ => ⟨hvl, hne, hup, by omega, by omega, fun _ => t7⟩, fun _ => rfl⟩⟩, _, rfl⟩
           ·have t7b : decide ((0 : Int) < (n.nd.data.length : Nat)) = true := decide_eq_true (by have := List.length_pos_iff.2 t7; omega)
            go_quiet (fail)
            go_wp2_with fail
            go_meet
            case rel => exact ⟨⟨true, congrArg Value.bool (decide_eq_true (List.length_pos_iff.2 t7)), ⟨fun e => (by cases e), fun hf => absurd (hf.dat t6) t7⟩⟩, _, rfl⟩
          | false =>
           rw [t6] at f1
           go_quiet (fail)
           go_wp2_with fail
           go_meet
           case rel => exact ⟨⟨false, rfl, ⟨fun _ => ⟨hvl, hne, hup, by omega, by omega, fun e => (by rw [t6] at e; cases e)⟩, fun _ => rfl⟩⟩, _, rfl⟩
      case rest =>
       obtain ⟨⟨bt, rfl, hbt⟩, q, hwc⟩ := hcut
       have hbc : Below w3.heap.size w3 wc := by rw [hwc]; exact below_drewn q
       clear hwc
       have hlg := (lenR_oks hlr).2
       have hgd := (plant_gd clk ns hlg k ah _ hpl).2.1
       have hb23 : Below wr.heap.size wr w3 := hb2.trans (hb3.mono hb2.size)
       have hb2c : Below wr.heap.size wr wc := hb23.trans (hbc.mono hb23.size)
       have hBc : Below w.heap.size w wc := hBr.trans (hb2c.mono hBr.size)
       have hsc := hbc.size
       have hnone : stepP clk (some (ah, ms.map toE)) n = none → newR ns clk rm = .inl (.no 1) := fun hst => by
        have hpn : plantR clk ns = none := plant_none (k := k + 1) (by rw [plant_take hn, hpl]; exact hst)
        unfold newR
        rw [hlr]
        simp only
        rw [if_pos ⟨o1, o2, o3, o4⟩, hpn]
       have zc := (hbc.block _ (by omega)).trans z3
       have f0 : wc.cell? ⟨wr.heap.size, 0, none⟩ = some (.string (mk n.path)) := by rw [Lib.cell_of_heap zc]; rfl
       cases bt with
       | true =>
        have e := hnone (step_no hgd fun hh => by have := hbt.2 hh.1; cases this)
        clear hnone
        have HE := hide' e
        clear e
        go_wp2
        go_ret2
        rw [HE.out]
        exact ⟨hBc, rfl⟩
       | false =>
        have hf := hbt.1 rfl
        have qp := rparent_any (mk n.path) (by rw [mk_size]; omega) wc
        rw [tl_mk] at qp
        go_wp2_with fail
        refine qp.mono ?_
        rintro r w4 ⟨rfl, hb4⟩
        have hb24 : Below wr.heap.size wr w4 := hb2c.trans (hb4.mono hb2c.size)
        have hB4 : Below w.heap.size w w4 := hBr.trans (hb24.mono hBr.size)
        have hs4 := hb4.size
        have hRb4 : Rb w4 (w.heap.size + 1) va clk rm := (hb24.block _ (by omega)).trans hRb
        have hns4 : NsAt w4 W1.heap.size va ms := by
         refine ⟨?_, fun m hm => (hdat m hm).1.kept fun g hg => hb24.block g ((hdat m hm).1.lt g hg), fun m hm => (hdat m hm).2⟩
         rcases hown.2 with ⟨e1, e2⟩ | ⟨gg, cc, cur, e1, e2, hgg, e3, e4, e5, e6⟩
         ·exact .inl ⟨e1, List.length_eq_zero_iff.1 e2⟩
         ·exact .inr ⟨gg, cc, cur, e1, e2, (hb24.block gg (lt_of_block hgg)).trans hgg, e3, by omega, e6⟩
        have qa := rat_any (w.heap.size + 1) va ms clk rm (parent n.path) w4 hRb4 hns4.nodes hgd.srt (by omega)
        have HN := hide' hnone
        clear qp hnone
        go_wp2_with fail
        refine qa.mono ?_
        rintro r w5 ⟨⟨x, rfl, hx⟩, rfl⟩
        clear qa
        have hbad : ¬ (parent n.path = [] ∨ ∃ m, fnd (ms.map toE) (parent n.path) = some m ∧ m.dir = true) → newR ns clk rm = .inl (.no 1) := fun hh => HN.out (step_no hgd fun h2 => hh h2.2)
        have HB := hide' hbad
        clear hbad
        have c0 : w5.cell? ⟨w.heap.size + 1, 0, none⟩ = some va := by unfold Rb at hRb4; rw [Lib.cell_of_heap hRb4]; rfl
        go_upto_region 20 with fail
        go_cut [145] from 63 to 159 (fun c wx => Test c (parent n.path = [] ∨ ∃ m, fnd (ms.map toE) (parent n.path) = some m ∧ m.dir = true) ∧ wx = w5)
        case first =>
         by_cases hp : parent n.path = []
         ·have hp1 : (parent n.path).isEmpty = true := by rw [hp]; rfl
          have hp2 : (parent n.path == []) = true := by rw [hp]; rfl
          go_wp2_with fail
          go_meet
          case rel => exact ⟨⟨false, rfl, ⟨fun _ => .inl hp, fun _ => rfl⟩⟩, rfl⟩
         ·have hp1 : (parent n.path).isEmpty = false := str_nil _ hp
          have hp2 : (parent n.path == []) = false := beq_eq_false_iff_ne.2 hp
          rcases hx with ⟨rfl, hnf⟩ | ⟨kk, m, rfl, hkm, hmp⟩
          ·clear h hr hps hno hlr hpl hah hah0 hRb hown hdat htn ztr zt z0 z1 z2 z3 zt3 zc hrd hR hRb4 f1 f2 f3 t0 t1 HN HB hf hbt hns4 hlg hB1 hb0 hb1
           go_wp2_with fail
           go_meet
           case rel => exact ⟨⟨true, rfl, ⟨fun e => (by cases e), fun hh => (by rcases hh with h1 | ⟨m, h1, _⟩; exact absurd h1 hp; rw [hnf] at h1; cases h1)⟩⟩, rfl⟩
          ·have hfd : fnd (ms.map toE) (parent n.path) = some m.nd := by rw [← hmp]; exact hgd.srt.fnd (List.mem_map.2 ⟨m, List.mem_of_getElem? hkm, rfl⟩)
           have hkl2 : kk < ms.length := (List.getElem?_eq_some_iff.1 hkm).1
           have j1 : ¬ (kk : Int) < 0 := by omega
           have j2 : (kk : Int) < ms.length := by omega
           rcases hns4.row with ⟨_, e2⟩ | ⟨gg, cc, cur, rfl, _, hgg, hcc, _, hct⟩
           ·rw [e2] at hkl2; simp at hkl2
           have dd := cell_row hgg hct (r := 1) hkm (by omega) rfl
           cases hdm : m.nd.dir with
           | true =>
            rw [hdm] at dd
            clear h hr hps hno hlr hpl hah hah0 hRb hown hdat htn ztr zt z0 z1 z2 z3 zt3 zc hrd hR hRb4 f1 f2 f3 t0 t1 HN HB hf hbt hns4 hgg hct hcc hlg hB1 hb0 hb1
            go_wp2_with fail
            go_meet
            case rel => exact ⟨⟨false, rfl, ⟨fun _ => .inr ⟨m.nd, hfd, hdm⟩, fun _ => rfl⟩⟩, rfl⟩
           | false =>
            rw [hdm] at dd
            clear h hr hps hno hlr hpl hah hah0 hRb hown hdat htn ztr zt z0 z1 z2 z3 zt3 zc hrd hR hRb4 f1 f2 f3 t0 t1 HN HB hf hbt hns4 hgg hct hcc hlg hB1 hb0 hb1
            go_wp2_with fail
            go_meet
            case rel => exact ⟨⟨true, rfl, ⟨fun e => (by cases e), fun hh => (by rcases hh with h1 | ⟨m', h1, h2⟩; exact absurd h1 hp; rw [hfd] at h1; cases h1; rw [hdm] at h2; cases h2)⟩⟩, rfl⟩
        case rest =>
         obtain ⟨⟨bu, rfl, hbu⟩, hwx⟩ := hcut
         subst hwx
         cases bu with
         | true =>
          have e := HB.out (fun hh => by have := hbu.2 hh; cases this)
          have HE := hide' e
          clear e
          go_wp2
          go_ret2
          rw [HE.out]
          exact ⟨hB4, rfl⟩
         | false =>
          have hup := hbu.1 rfl
          have hst := step_yes hgd hf hup
          have z4 := (hb4.block _ (by omega)).trans zc
          have g3 : wc.cell? ⟨wr.heap.size, 3, none⟩ = some (.slice da n.nd.data.length dc) := by rw [Lib.cell_of_heap z4]; rfl
          have gz := Lib.frozen_of_heap z4 3
          have hrd4 := hrd.below hb24
          have hdl : n.nd.data.length ≤ 65536 := by
           have h1 := hlg n hmem
           unfold long at h1
           cases hd6 : n.nd.dir with
           | true => rw [hf.dat hd6]; simp
           | false => rw [hd6] at h1; simp at h1; omega
          have hst2 : plantR clk (ns.take (k + 1)) = some (n.path, put (ms.map toE) n.path n.nd) := by rw [plant_take hn, hpl]; exact hst
          have hpt := (plant_gd clk ns hlg (k + 1) _ _ hst2).1
          rw [List.take_add_one, hn, List.map_append, ← (plant_gd clk ns hlg k ah _ hpl).1] at hpt
          have HK := hide' (And.intro hown (And.intro hdat (And.intro htn (And.intro hst2 (And.intro hpt (And.intro hb24 (And.intro hB4 (And.intro hRb4 (And.intro z4 (And.intro hn hmk))))))))))
          clear h hr hps hno hlr hpl hah hah0 hRb hown hdat htn ztr zt z0 z1 z2 z3 zt3 zc hrd hR hRb4 f1 f2 f3 t0 t1 HN HB hf hbt hns4 hlg hB1 hb0 hb1 hx hbu hup hst hst2 hpt hb24 hB4 z4 hn hgd hb4 hbc hb23 hb2c hBc hb3 hb2 hBr hmem hpn f0 hvl hs0 hsz hs2 hs3 hsc hs4
          go_wp2_with (at_builtin; refine wpList_append_dat _ rfl _ _ rfl rfl rfl (Dat.nil _) hrd4 (by simpa using (Nat.le_trans hdl (by omega))) ?_)
          intro v6 w6 hd6 _ hg6 ho6
          obtain ⟨hown, hdat, htn, hst2, hpt, hb24, hB4, hRb4, z4, hn, hmk⟩ := HK.out
          have hd6 : Dat w6 v6 n.nd.data := hd6
          have hbg6 : Below wc.heap.size wc w6 := ⟨hg6.os, hg6.tape, hg6.output, hg6.size, fun b hb => hg6.block b hb (by simp [Value.ownBlock])⟩
          have hs46 : wr.heap.size < wc.heap.size := lt_of_block z4
          have hs1r := htn.size
          have z6 := (hbg6.block _ hs46).trans z4
          have gz6 := Lib.frozen_of_heap z6 3
          have c36 : w6.cell? ⟨wr.heap.size, 3, none⟩ = some (.slice da n.nd.data.length dc) := by rw [Lib.cell_of_heap z6]; rfl
          obtain ⟨a6, c6, hv6⟩ := hd6.len
          subst hv6
          clear hn hst2 hpt hown hdat htn hb24 hB4 hRb4 z4 hmk hrd4 g3 gz c0
          go_upto_region 23 with fail
          obtain ⟨hown, hdat, htn, hst2, hpt, hb24, hB4, hRb4, z4, hn, hmk⟩ := HK.out
          refine wp_region_classX [10] (C := TnC wr.heap.size (w.heap.size + 1) (mk n.path) n.nd.dir n.nd.time (.slice a6 n.nd.data.length c6) va) (by kernel_rfl) ?_
          have hRbr : wr.heap[w.heap.size + 1]? = some (.cells #[va, .int .i64 clk, .int .i64 rm] 66 (0, 0)) := (hb24.block _ (by omega)).symm.trans hRb4
          obtain ⟨w7, hw7⟩ : ∃ w7, w7 = (w6.setCell ⟨wr.heap.size, 3, none⟩ (.slice a6 n.nd.data.length c6)).drew := ⟨_, rfl⟩
          have z7 : w7.heap[wr.heap.size]? = some (.cells #[.string (mk n.path), .bool n.nd.dir, .int .i64 n.nd.time, .slice a6 n.nd.data.length c6] 60 (0, 0)) := by rw [hw7]; exact set_row z6 3 _
          have hk7 : ∀ b, b ≠ wr.heap.size → w7.heap[b]? = w6.heap[b]? := fun b hb => by rw [hw7]; exact Below.heap_setCell w6 ⟨wr.heap.size, 3, none⟩ _ b (by simpa using hb)
          have ht7 : Below wr.heap.size wr w7 := by rw [hw7]; exact ((hb24.trans (hbg6.mono hb24.size)).setCell (p := ⟨wr.heap.size, 3, none⟩) (Nat.le_refl _) _).drew
          have hd7 : Dat w7 (.slice a6 n.nd.data.length c6) n.nd.data := hd6.kept fun g hg => hk7 g (by
           obtain ⟨cur, hc⟩ := hd6.elem g hg
           intro e
           rw [e, z6] at hc
           simp at hc)
          have hnew : ∀ g, (Value.slice a6 n.nd.data.length c6).ownBlock = some g → W1.heap.size ≤ g := fun g hg => by
           rcases ho6 with e | e
           ·rw [hg] at e; cases e
           ·rw [hg] at e
            have := Option.some.inj e
            have := hb24.size
            omega
          have hlt7 : wr.heap.size < w7.heap.size := lt_of_block z7
          have hTn : TnC wr.heap.size (w.heap.size + 1) (mk n.path) n.nd.dir n.nd.time (.slice a6 n.nd.data.length c6) va w7 :=
           ⟨by rw [Lib.cell_of_heap z7]; rfl, by rw [Lib.cell_of_heap z7]; rfl, by rw [Lib.cell_of_heap z7]; rfl, by rw [Lib.cell_of_heap z7]; rfl, by
            have hr7 : w7.heap[w.heap.size + 1]? = some (.cells #[va, .int .i64 clk, .int .i64 rm] 66 (0, 0)) := (hk7 _ (by omega)).trans ((hbg6.block _ (by have := hb24.size; omega)).trans hRb4)
            rw [Lib.cell_of_heap hr7]; rfl⟩
          rw [← hw7]
          have HK2 := hide' (And.intro hown (And.intro hdat (And.intro htn (And.intro hst2 (And.intro hpt (And.intro ht7 (And.intro hB4 (And.intro hd7 (And.intro hnew (And.intro hn (And.intro hmk hRbr)))))))))))
          clear hown hdat htn hst2 hpt hb24 hB4 hRb4 hRbr z4 hn hmk hd6 hg6 ho6 hbg6 z6 gz6 c36 hd7 hnew ht7 hk7 hw7 HK z7
          (refine wpAnyX_take (i := 0) (v := ?_) hTn rfl (by kernel_rfl) (by kernel_rfl) (by kernel_rfl) (by kernel_rfl) (fun _ _ _ h => h) (Or.inl ⟨by kernel_rfl, ?_⟩) ?_; rotate_left; (intro w hc; have k0 := hc.c0; have k1 := hc.c1; have k2 := hc.c2; have k3 := hc.c3; have kg := hc.cg; clear hc; go_simp; try with_reducible rfl))
          (refine wpAnyX_take (i := 1) (v := ?_) hTn rfl (by kernel_rfl) (by kernel_rfl) (by kernel_rfl) (by kernel_rfl) (fun _ _ _ h => h) (Or.inl ⟨by kernel_rfl, ?_⟩) ?_; rotate_left; (intro w hc; have k0 := hc.c0; have k1 := hc.c1; have k2 := hc.c2; have k3 := hc.c3; have kg := hc.cg; clear hc; go_simp; try with_reducible rfl))
          (refine wpAnyX_take (i := 2) (v := ?_) hTn rfl (by kernel_rfl) (by kernel_rfl) (by kernel_rfl) (by kernel_rfl) (fun _ _ _ h => h) (Or.inl ⟨by kernel_rfl, ?_⟩) ?_; rotate_left; (intro w hc; have k0 := hc.c0; have k1 := hc.c1; have k2 := hc.c2; have k3 := hc.c3; have kg := hc.cg; clear hc; go_simp; try with_reducible rfl))
          (refine wpAnyX_take (i := 3) (v := ?_) hTn rfl (by kernel_rfl) (by kernel_rfl) (by kernel_rfl) (by kernel_rfl) (fun _ _ _ h => h) (Or.inl ⟨by kernel_rfl, ?_⟩) ?_; rotate_left; (intro w hc; have k0 := hc.c0; have k1 := hc.c1; have k2 := hc.c2; have k3 := hc.c3; have kg := hc.cg; clear hc; go_simp; try with_reducible rfl))
          (refine wpAnyX_take (i := 4) (v := ?_) hTn rfl (by kernel_rfl) (by kernel_rfl) (by kernel_rfl) (by kernel_rfl) (fun _ _ _ h => h) (Or.inl ⟨by kernel_rfl, ?_⟩) ?_; rotate_left; (intro w hc; have k0 := hc.c0; have k1 := hc.c1; have k2 := hc.c2; have k3 := hc.c3; have kg := hc.cg; clear hc; go_simp; try with_reducible rfl))
          (refine wpAnyX_take (i := 5) (v := ?_) hTn rfl (by kernel_rfl) (by kernel_rfl) (by kernel_rfl) (by kernel_rfl) (fun _ _ _ h => h) (Or.inl ⟨by kernel_rfl, ?_⟩) ?_; rotate_left; (intro w hc; have k0 := hc.c0; have k1 := hc.c1; have k2 := hc.c2; have k3 := hc.c3; have kg := hc.cg; clear hc; go_simp; try with_reducible rfl))
          refine wpAnyX_one (i := 6) (by kernel_rfl) (wpOp_wanted rfl (by rfl) ?_)
          have hb8 : Below w7.heap.size w7 (w7.alloc (.cells #[.string (mk n.path), .bool n.nd.dir, .int .i64 n.nd.time, .slice a6 n.nd.data.length c6] 60)) := (Below.refl _ _).alloc (Nat.le_refl _) _
          have hTn8 : TnC wr.heap.size (w.heap.size + 1) (mk n.path) n.nd.dir n.nd.time (.slice a6 n.nd.data.length c6) va (w7.alloc (.cells #[.string (mk n.path), .bool n.nd.dir, .int .i64 n.nd.time, .slice a6 n.nd.data.length c6] 60)) :=
           ⟨(hb8.cell (p := ⟨_, 0, none⟩) (lt_of_cell' hTn.c0)).trans hTn.c0, (hb8.cell (p := ⟨_, 1, none⟩) (lt_of_cell' hTn.c1)).trans hTn.c1, (hb8.cell (p := ⟨_, 2, none⟩) (lt_of_cell' hTn.c2)).trans hTn.c2, (hb8.cell (p := ⟨_, 3, none⟩) (lt_of_cell' hTn.c3)).trans hTn.c3, (hb8.cell (p := ⟨_, 0, none⟩) (lt_of_cell' hTn.cg)).trans hTn.cg⟩
          go_simp
          obtain ⟨hown, hdat, htn, hst2, hpt, ht7, hB4, hd7, hnew, hn, hmk, hRbr⟩ := HK2.out
          obtain ⟨inf, hi, hz0, hz1, hz2⟩ := info_parts info55
          have hs7r := ht7.size
          have hs1w := htn.size
          have hB8 : Below wr.heap.size wr (w7.alloc (.cells #[.string (mk n.path), .bool n.nd.dir, .int .i64 n.nd.time, .slice a6 n.nd.data.length c6] 60)) := ht7.trans (hb8.mono ht7.size)
          have hown8 : (w7.alloc (.cells #[.string (mk n.path), .bool n.nd.dir, .int .i64 n.nd.time, .slice a6 n.nd.data.length c6] 60)).ownsRow W1.heap.size 60 4 va ms.length (flat ms) := own_kept hown hB8
          refine wpAnyX_one (i := 7) (by kernel_rfl) (wpOp_wanted rfl (by rfl) ?_)
          refine wp_append_lies _ _ _ 22 rfl W1.heap.size 60 inf _ 4 56 Tryz.underlying22 hi hz0 hz1 hz2 rfl (by decide) va ms.length (flat ms) rfl hown8 ⟨w7.heap.size, 0, none⟩ 1 1 (cellsN ⟨n.path, .slice a6 n.nd.data.length c6, n.nd⟩) rfl rfl (news_cells w7 _) (news_one _ _ _ _) (by decide) (by unfold maxLen; omega) (by omega) (by simp; omega) _ rfl ?_
          intro g9 c9 w9 hown9 hgr9 hat9 hlt9
          have hva : ∀ b, b < W1.heap.size → some b ≠ va.ownBlock := by
           intro b hb e1
           rcases hown.2 with ⟨rfl, _⟩ | ⟨g, cap, cur, rfl, hg, _⟩
           ·cases e1
           ·have := Option.some.inj e1
            simp only at this
            omega
          have hnb : some wr.heap.size ≠ va.ownBlock := by
           intro e1
           rcases hown.2 with ⟨rfl, _⟩ | ⟨g, cap, cur, rfl, hg, hgh, _⟩
           ·cases e1
           ·have := Option.some.inj e1
            have := lt_of_block hgh
            simp only at *
            omega
          have hs8 := hB8.size
          have hs87 := hb8.size
          have hkn : w9.heap[wr.heap.size]? = (w7.alloc (.cells #[.string (mk n.path), .bool n.nd.dir, .int .i64 n.nd.time, .slice a6 n.nd.data.length c6] 60)).heap[wr.heap.size]? := hgr9.block _ (by omega) hnb
          have hk9 : ∀ b, b < W1.heap.size → w9.heap[b]? = wr.heap[b]? := fun b hb => (hgr9.block b (by omega) (hva b hb)).trans (hB8.block b (by omega))
          have hR9 := World.cell?_of_block (a := ⟨w.heap.size + 1, 0, none⟩) ((hgr9.block (w.heap.size + 1) (by omega) (hva _ (by omega))))
          have hTn9 : TnC wr.heap.size (w.heap.size + 1) (mk n.path) n.nd.dir n.nd.time (.slice a6 n.nd.data.length c6) va w9 :=
           ⟨(World.cell?_of_block (a := ⟨wr.heap.size, 0, none⟩) hkn).trans hTn8.c0, (World.cell?_of_block (a := ⟨wr.heap.size, 1, none⟩) hkn).trans hTn8.c1, (World.cell?_of_block (a := ⟨wr.heap.size, 2, none⟩) hkn).trans hTn8.c2, (World.cell?_of_block (a := ⟨wr.heap.size, 3, none⟩) hkn).trans hTn8.c3, hR9.trans hTn8.cg⟩
          have hT9 := (hk9 (w.heap.size + 1) (by omega)).trans hRbr
          have tz9 := Lib.frozen_of_heap hT9 0
          have tg9 : w9.cell? ⟨w.heap.size + 1, 0, none⟩ = some va := hTn9.cg
          clear hR9 hkn
          refine ⟨fun _ => hTn9, ?_⟩
          refine wpAnyX_one (i := 8) (by kernel_rfl) (wpOp_wanted rfl (by rfl) ?_)
          go_simp
          refine wpAnyX_one (i := 9) (by kernel_rfl) (wpOp_wanted rfl (by rfl) ?_)
          go_simp
          refine wpAnyX_one (i := 10) (by kernel_rfl) (wpOp_wanted rfl (by rfl) ?_)
          go_simp
          refine wpAnyX_done (by kernel_rfl) ?_ _
          go_wp2
          have hset : ∀ b, b ≠ w.heap.size + 1 → (w9.setCell ⟨w.heap.size + 1, 0, none⟩ (.slice (some ⟨g9, 0, none⟩) (k + 1) c9)).heap[b]? = w9.heap[b]? := fun b hb => Below.heap_setCell w9 ⟨w.heap.size + 1, 0, none⟩ _ b (by simpa using hb)
          have hdk : ∀ v bs, Dat (w7.alloc (.cells #[.string (mk n.path), .bool n.nd.dir, .int .i64 n.nd.time, .slice a6 n.nd.data.length c6] 60)) v bs → (∀ g, v.ownBlock = some g → W1.heap.size ≤ g) → Dat (w9.setCell ⟨w.heap.size + 1, 0, none⟩ (.slice (some ⟨g9, 0, none⟩) (k + 1) c9)) v bs := fun v bs hd hg => (dat_grown hd hown8 hgr9).kept fun g hgb => hset g (by have := hg g hgb; omega)
          refine ⟨⟨k + 1, .slice (some ⟨g9, 0, none⟩) (k + 1) c9, ms ++ [⟨n.path, .slice a6 n.nd.data.length c6, n.nd⟩], n.path, by omega, by simp, ?_, fun j n' hj hn' => ?_, fun h0 => (by omega), set_row hT9 0 _, ?_, fun m hm => ?_, ?_, ?_⟩, by simp [intOf]; omega⟩
          ·rw [hst2, hpt, List.map_append]
           rfl
          ·have : k = j := by omega
           subst this
           rw [hn] at hn'
           cases hn'
           rfl
          ·have ho := hown9
           rw [hmk] at ho
           have e1 : (ms ++ [(⟨n.path, .slice a6 n.nd.data.length c6, n.nd⟩ : Nv)]).length = k + 1 := by rw [List.length_append, hmk]; rfl
           have e2 : flat (ms ++ [(⟨n.path, .slice a6 n.nd.data.length c6, n.nd⟩ : Nv)]) = flat ms ++ cellsN ⟨n.path, .slice a6 n.nd.data.length c6, n.nd⟩ := by unfold flat; rw [List.flatMap_append]; simp
           rw [e1, e2]
           refine ⟨ho.1, ?_⟩
           rcases ho.2 with ⟨e3, _⟩ | ⟨g, cap, cur, e3, hbg, hg, r⟩
           ·cases e3
           ·cases e3
            exact .inr ⟨g9, c9, cur, rfl, hbg, (hset g9 (by omega)).trans hg, r⟩
          ·rcases List.mem_append.1 hm with hm | hm
           ·exact ⟨hdk _ _ ((hdat m hm).1.kept fun g hgb => hB8.block g ((hdat m hm).1.lt g hgb)) (hdat m hm).2, (hdat m hm).2⟩
           ·rw [List.mem_singleton.1 hm]
            exact ⟨hdk _ _ (hd7.kept fun g hgb => hb8.block g (hd7.lt g hgb)) hnew, hnew⟩
          ·rw [List.length_append, hmk]
           rfl
          ·refine ⟨hgr9.os.trans (hB8.os.trans htn.os), hgr9.tape.trans (hB8.tape.trans htn.tape), hgr9.output.trans (hB8.output.trans htn.output), ?_, fun b hb hn => ?_⟩
           ·show W1.heap.size ≤ (w9.setCell _ _).heap.size
            have h1 := hgr9.size
            have h2 := ((Below.refl 0 w9).setCell (p := ⟨w.heap.size + 1, 0, none⟩) (Nat.zero_le _) (.slice (some ⟨g9, 0, none⟩) (k + 1) c9)).size
            omega
           ·exact (hset b hn).trans ((hk9 b hb).trans (htn.block b hb hn))
     ·obtain rfl : k = ns.length := by omega
      rw [List.take_length] at hpl
      have k1 : ¬ (ns.length : Int) < ns.length := by omega
      have hlg := (lenR_oks hlr).2
      have hTe : ms.map toE = ns.map toE := by
       have := (plant_gd clk ns hlg ns.length ah _ (by rw [List.take_length]; exact hpl)).1
       rwa [List.take_length] at this
      have hna : NsAt wr W1.heap.size va ms := by
       refine ⟨?_, fun m hm => (hdat m hm).1, fun m hm => (hdat m hm).2⟩
       rcases hown.2 with ⟨e1, e2⟩ | ⟨gg, cc, cur, e1, e2, hgg, e3, e4, e5, e6⟩
       ·exact .inl ⟨e1, List.length_eq_zero_iff.1 e2⟩
       ·exact .inr ⟨gg, cc, cur, e1, e2, hgg, e3, by omega, e6⟩
      have hgd := (plant_gd clk ns hlg ns.length ah _ (by rw [List.take_length]; exact hpl)).2.1
      have hdl : ∀ m ∈ ms, m.nd.data.length ≤ 65536 := fun m hm => (hgd.dat (toE m) (List.mem_map.2 ⟨m, hm, rfl⟩)).2
      have q := fun n => rweight_any va ms (wr.drewN n) (hna.nodes.below (below_drewn n)) (by omega) hdl
      have hnw := newR_some hlr ⟨o1, o2, o3, o4⟩ hpl
      have a0 : wr.cell? ⟨w.heap.size, 0, none⟩ = some (.slice (some ⟨g, o, none⟩) ns.length cap) := by rw [Lib.cell_of_heap ztr]; rfl
      have a2 : wr.cell? ⟨w.heap.size, 2, none⟩ = some (.int .i64 rm) := by rw [Lib.cell_of_heap ztr]; rfl
      have c0 : wr.cell? ⟨w.heap.size + 1, 0, none⟩ = some va := by rw [Lib.cell_of_heap hRb]; rfl
      obtain ⟨wt, hwt⟩ : ∃ wt, wt = weight (ms.map toE) := ⟨_, rfl⟩
      rw [← hwt] at q hnw
      have HA := hide' hna
      have HR := hide' hRb
      clear hna hRb hpl hah hah0 hown hdat hgd hdl hlg hno hlr h hr hps htn ztr zt z0 z1 hwt hB1 hb0 hb1
      by_cases hw : rm < (wt : Int)
      ·have hwb : decide (rm < (wt : Int)) = true := decide_eq_true hw
       rw [if_pos hw] at hnw
       go_upto_region 24 with fail
       go_quiet ((go_at_call 26; exact Calls.quiet_of_same (q _)))
       go_wp2
       go_ret2
       exact ⟨hBr.trans (below_drewn _), rfl⟩
      ·have hwb : decide (rm < (wt : Int)) = false := decide_eq_false hw
       rw [if_neg hw] at hnw
       go_upto_region 24 with fail
       go_quiet ((go_at_call 26; exact Calls.quiet_of_same (q _)))
       go_wp2
       go_ret2
       exact ⟨hBr.trans (below_drewn _), w.heap.size + 1, va, ms, rfl, by omega, HR.out, (NsAt.below HA.out (below_drewn _)).mono (by omega), hTe⟩
   ·have e : newR ns clk rm = .inl (.no 1) := by unfold newR; rw [hlr]; simp only [if_neg hok]
    by_cases n1 : clk < 0
    ·go_wp2
     go_ret2
     exact ⟨hb0, rfl⟩
    by_cases n2 : rm < 0
    ·go_wp2
     go_ret2
     exact ⟨hb0, rfl⟩
    by_cases n3 : 1099511627776 < clk
    ·go_wp2
     go_ret2
     exact ⟨hb0, rfl⟩
    have n4 : 1048576 < rm := by unfold okTree at hok; omega
    go_wp2
    go_ret2
    exact ⟨hb0, rfl⟩
set_option maxRecDepth 100000 in
set_option maxHeartbeats 4000000 in
theorem rnew_nil (a : Option Addr) (cap : Nat) (clk rm : Int) (w : World) :
  Calls Tryz.prog 8 #[.agg #[.slice a 0 cap, .int .i64 clk, .int .i64 rm]] w fun r w' => RnAt clk rm w r w' (newR [] clk rm) := by
 have hb0 : Below w.heap.size w (w.alloc (.cells #[.slice a 0 cap, .int .i64 clk, .int .i64 rm] 24)) := (Below.refl _ _).alloc (Nat.le_refl _) _
 go_enter Tryz.func8, Tryz.ntmps8
 go_wp2
 go_loopw [4] (fun i wr => i = .int .i64 0 ∧ wr = w.alloc (.cells #[.slice a 0 cap, .int .i64 clk, .int .i64 rm] 24)) (fun _ _ => 0)
 case atStart => exact ⟨rfl, rfl⟩
 case round =>
  obtain ⟨rfl, rfl⟩ := hrel
  by_cases hok : okTree clk rm
  ·obtain ⟨o1, o2, o3, o4⟩ := hok
   have n1 : ¬ clk < 0 := by omega
   have n2 : ¬ 1099511627776 < clk := by omega
   have n3 : ¬ rm < 0 := by omega
   have n4 : ¬ 1048576 < rm := by omega
   have hnw : newR [] clk rm = .inr [] := by
    rw [newR_some (ns := []) rfl ⟨o1, o2, o3, o4⟩ (by rfl : plantR clk [] = some ([], []))]
    rw [if_neg (by show ¬ rm < ((0 : Nat) : Int); omega)]
   have hb1 := fun o => hb0.alloc hb0.size o
   have z0 := alloc_new w (.cells #[.slice a 0 cap, .int .i64 clk, .int .i64 rm] 24)
   have q := fun W => rweight_any (.slice none 0 0) [] W (.inl ⟨⟨_, _, rfl⟩, rfl⟩) (by simp) (fun n hn => (by cases hn))
   have hw : ((weight ([].map toE) : Nat) : Int) = 0 := rfl
   rw [hw] at q
   have hwb : decide (rm < 0) = false := decide_eq_false n3
   go_wp2
   obtain ⟨W, hW⟩ : ∃ W, W = (w.alloc (.cells #[.slice a 0 cap, .int .i64 clk, .int .i64 rm] 24)).alloc (.cells #[.slice none 0 0, .int .i64 clk, .int .i64 rm] 66) := ⟨_, rfl⟩
   have hBW : Below w.heap.size w W := by rw [hW]; exact hb1 _
   have y0 : W.heap[w.heap.size]? = some (.cells #[.slice a 0 cap, .int .i64 clk, .int .i64 rm] 24 (0, 0)) := by rw [hW]; exact (Below.heap_alloc _ _ _ (by simp)).trans z0
   have y1 : W.heap[w.heap.size + 1]? = some (.cells #[.slice none 0 0, .int .i64 clk, .int .i64 rm] 66 (0, 0)) := by
    rw [hW]
    have q := alloc_new (w.alloc (.cells #[.slice a 0 cap, .int .i64 clk, .int .i64 rm] 24)) (.cells #[.slice none 0 0, .int .i64 clk, .int .i64 rm] 66)
    rw [size_alloc'] at q
    exact q
   have a0 : W.cell? ⟨w.heap.size, 0, none⟩ = some (.slice a 0 cap) := by rw [Lib.cell_of_heap y0]; rfl
   have a2 : W.cell? ⟨w.heap.size, 2, none⟩ = some (.int .i64 rm) := by rw [Lib.cell_of_heap y0]; rfl
   have c0 : W.cell? ⟨w.heap.size + 1, 0, none⟩ = some (.slice none 0 0) := by rw [Lib.cell_of_heap y1]; rfl
   have HY := hide' y1
   rw [← hW]
   clear hW hb1 z0 y0 y1 hb0
   go_loopw [6] (fun i wr => i = .int .i64 0 ∧ wr = W) (fun _ _ => 0)
   case atStart => exact ⟨rfl, rfl⟩
   case round =>
    obtain ⟨rfl, rfl⟩ := hrel
    go_upto_region 24 with fail
    go_quiet ((go_at_call 26; exact Calls.quiet_of_same (q _)))
    go_wp2
    go_ret2
    rw [hnw]
    exact ⟨hBW.trans (below_drewn _), w.heap.size + 1, .slice none 0 0, [], rfl, by omega, HY.out, NsAt.nil _ _, rfl⟩
  ·have e : newR [] clk rm = .inl (.no 1) := by unfold newR; simp only [if_neg hok]; rfl
   by_cases n1 : clk < 0
   ·go_wp2
    go_ret2
    try rw [e]
    exact ⟨hb0, rfl⟩
   by_cases n2 : rm < 0
   ·go_wp2
    go_ret2
    try rw [e]
    exact ⟨hb0, rfl⟩
   by_cases n3 : 1099511627776 < clk
   ·go_wp2
    go_ret2
    try rw [e]
    exact ⟨hb0, rfl⟩
   have n4 : 1048576 < rm := by unfold okTree at hok; omega
   go_wp2
   go_ret2
   try rw [e]
   exact ⟨hb0, rfl⟩
theorem rnew_any (v : Value) (ns : List Nv) (clk rm : Int) (w : World) (h : Nodes w v ns) (hps : ∀ n ∈ ns, n.path.length ≤ 300000) :
  Calls Tryz.prog 8 #[.agg #[v, .int .i64 clk, .int .i64 rm]] w fun r w' => RnAt clk rm w r w' (newR ns clk rm) := by
 by_cases hl : ns.length ≤ 1000
 ·rcases h with ⟨⟨a, c, rfl⟩, rfl⟩ | ⟨g, o, cap, rfl, h0, h1, h2⟩
  ·exact rnew_nil a c clk rm w
  ·exact rnew_row g o cap ns clk rm w h1 h2 hl hps
 ·obtain ⟨a, c, rfl⟩ := h.len
  have e : newR ns clk rm = .inl (.no 2) := by unfold newR lenR; rw [if_pos (.inl (by omega))]
  try rw [e]
  exact (rnew_much a ns.length c (by omega) clk rm w).mono fun r w' ⟨hr, hb⟩ => ⟨hb, hr⟩
end Go.Proofs.YtabmnkddmdffkaaGreatDoor
