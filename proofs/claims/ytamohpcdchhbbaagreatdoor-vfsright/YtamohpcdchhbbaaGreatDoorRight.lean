/- The law VfsRight, walked. -/
import Derived.Test.YtamohpcdchhbbaaGreatDoorSame
import Derived.Test.YtamohpcdchhbbaaGreatDoorBig
import Derived.Test.YtamohpcdchhbbaaGreatDoorAlive
import Derived.Deep.CutBlock
namespace Go.Proofs.YtamohpcdchhbbaaGreatDoor
open Go.RowKit Go.Maps

/-- a call's answer and what it leaves -/
def opR (T : Tr) (clk rm : Int) (o : Ov) : Out :=
  if o.kind.tmod 6 = 0 then writeR T clk rm (clean (tl o.p)) o.b false
  else if o.kind.tmod 6 = 1 then writeR T clk rm (clean (tl o.p)) o.b true
  else if o.kind.tmod 6 = 2 then mkdirR T clk rm (clean (tl o.p))
  else if o.kind.tmod 6 = 3 then removeR T clk (clean (tl o.p))
  else if o.kind.tmod 6 = 4 then renameR T clk (clean (tl o.p)) (clean (tl o.q))
  else touchR T clk rm (clean (tl o.p))
theorem op_ok {T : Tr} {clk rm : Int} (h : Gd T clk) (hk : 0 ≤ clk) (o : Ov) : StepOk T clk (opR T clk rm o) := by
  unfold opR
  split
  · exact write_ok h hk _ _ _
  split
  · exact write_ok h hk _ _ _
  split
  · exact mkdir_ok h hk _
  split
  · exact remove_ok h _
  split
  · exact rename_ok h _ _
  · exact touch_ok h hk _
theorem IsFs.shrink {w : World} {S : Nat → Prop} {A : Nat} {T : Tr} {clk rm : Int} (h : IsFs w S A T clk rm) : IsFs w (fun i => S i ∧ i < w.heap.size) A T clk rm := by
  obtain ⟨⟨M, L, hF, hO, hL⟩, a, b, c, d⟩ := h
  exact ⟨⟨M, L, hF, ⟨⟨hO.sA, hF.fb.lt⟩, ⟨hO.sM, hF.mp.lt⟩, fun e he => ⟨hO.sB e he, (hF.nodes e he).lt⟩, fun e he g hg => ⟨hO.sD e he g hg, (hO.dat e he).lt g hg⟩, hO.dat, hO.apB, hO.apD⟩, hL⟩, a, b, c, d⟩
theorem NsAt.turn {w w' : World} {S : Nat → Prop} {b : Nat} {v : Value} {ns : List Nv} (h : NsAt w b v ns) (ht : Turn S w w') (hS : ∀ j, S j → j < b) : NsAt w' b v ns := by
  refine ⟨?_, fun n hn => (h.dat n hn).kept fun g hg => ht.block g ((h.dat n hn).lt g hg) fun hs => ?_, h.hi⟩
  · rcases h.row with h1 | ⟨g, cap, cur, rfl, h2, hg, r⟩
    · exact .inl h1
    · exact .inr ⟨g, cap, cur, rfl, h2, (ht.block g (lt_of_block hg) fun hs => by have := hS g hs; omega).trans hg, r⟩
  · have h1 := hS g hs
    have h2 := h.hi n hn g hg
    omega
theorem newR_num {ns : List Nv} {clk rm : Int} {k : Er} (h : newR ns clk rm = .inl k) : k.num ≠ 0 := by
  unfold newR at h
  have hl : lenR ns = .ok ∨ lenR ns = .no 2 := by unfold lenR; split <;> simp
  rcases hl with e | e
  · rw [e] at h
    simp only at h
    split at h
    · cases hp : plantR clk ns with
      | none => rw [hp] at h; cases h; simp [Er.num]
      | some st =>
        rw [hp] at h
        simp only at h
        split at h
        · cases h; simp [Er.num]
        · cases h
    · cases h; simp [Er.num]
  · rw [e] at h
    simp only at h
    cases h; simp [Er.num]
theorem turn_one (w : World) (b j : Nat) (v : Value) : Turn (fun i => i = b) w (w.setCell ⟨b, j, none⟩ v) :=
  ⟨rfl, rfl, rfl, Nat.le_of_eq (by simp), fun _ _ hn => Below.heap_setCell _ _ _ _ hn⟩
/-- the tree that was, beside a file system -/
structure WasAt (wr : World) (wb b : Nat) (S : Nat → Prop) (v : Value) (ns : List Nv) (clk rm : Int) : Prop where
  blk : wr.heap[wb]? = some (.cells #[v, .int .i64 clk, .int .i64 rm] 24 (0, 0))
  ns : NsAt wr b v ns
  lo : ∀ j, S j → j < b
  ne : ∀ j, S j → j ≠ wb
set_option maxRecDepth 100000 in
set_option maxHeartbeats 8000000 in
theorem right_go (B : Nat) (E : Addr) (v ov : Value) (ns : List Nv) (os : List Ov) (clk rm : Int) (w : World) (h : Nodes w v ns) (ho : OpsAt w ov os) (hG : Glo B w E) (hB : B ≤ w.heap.size) (hlim : ∀ n ∈ ns, Lim n) (hml : ns.length ≤ 140737488355328) (holim : ∀ n ∈ os, OLim n) (homl : os.length ≤ 140737488355328) (hck : ¬ 549755813888 < clk) :
    Calls Tryz.prog 5 #[.agg #[v, .int .i64 clk, .int .i64 rm], ov] w fun r w' => r = .returned (.bool true) ∧ Below w.heap.size w w' := by
  obtain ⟨va, vc, rfl⟩ := h.len
  obtain ⟨oa, oc, rfl⟩ := ho.len
  have hb0 : Below w.heap.size w (w.alloc (.cells #[.slice va ns.length vc, .int .i64 clk, .int .i64 rm] 24)) := (Below.refl _ _).alloc (Nat.le_refl _) _
  have z0 := alloc_new w (.cells #[.slice va ns.length vc, .int .i64 clk, .int .i64 rm] 24)
  obtain ⟨w0, hw0⟩ : ∃ w0, w0 = w.alloc (.cells #[.slice va ns.length vc, .int .i64 clk, .int .i64 rm] 24) := ⟨_, rfl⟩
  have hs0 : w0.heap.size = w.heap.size + 1 := by rw [hw0]; simp
  rw [← hw0] at hb0 z0
  have qa := alive_any B E w0 (hG.keep (hb0.mono hB)) (Nat.le_trans hB hb0.size)
  go_enter Tryz.func5, Tryz.ntmps5
  go_wp2_with fail
  rw [← hw0]
  refine qa.mono ?_
  rintro r w1 ⟨rfl, hb1⟩
  have hB1 : Below w.heap.size w w1 := hb0.trans (hb1.mono hb0.size)
  have hs1 := hb1.size
  clear qa hw0
  have qm := Much_any _ os w1 (ho.below hB1) holim homl
  go_wp2_with fail
  refine qm.mono ?_
  rintro r w2 ⟨⟨b1, rfl, hb1t⟩, hb2⟩
  have hB2 : Below w.heap.size w w2 := hB1.trans (hb2.mono hB1.size)
  have hs2 := hb2.size
  have z2 := (hb2.block w.heap.size (by omega)).trans ((hb1.block w.heap.size (by omega)).trans z0)
  have t0 : w2.cell? ⟨w.heap.size, 0, none⟩ = some (.slice va ns.length vc) := by rw [Lib.cell_of_heap z2]; rfl
  have t1 : w2.cell? ⟨w.heap.size, 1, none⟩ = some (.int .i64 clk) := by rw [Lib.cell_of_heap z2]; rfl
  have t2 : w2.cell? ⟨w.heap.size, 2, none⟩ = some (.int .i64 rm) := by rw [Lib.cell_of_heap z2]; rfl
  clear qm
  cases b1 with
  | true =>
    go_wp2
    go_ret
    exact ⟨rfl, hB2⟩
  | false =>
    obtain ⟨hol, hos⟩ := hb1t rfl
    have qb := Big_any _ ns clk rm w2 (h.below hB2) hlim hml
    go_wp2_with fail
    refine qb.mono ?_
    rintro r w3 ⟨⟨b2, rfl, hb2t⟩, hb3⟩
    have hB3 : Below w.heap.size w w3 := hB2.trans (hb3.mono hB2.size)
    have hs3 := hb3.size
    have z3 := (hb3.block w.heap.size (by omega)).trans z2
    have s0 : w3.cell? ⟨w.heap.size, 0, none⟩ = some (.slice va ns.length vc) := by rw [Lib.cell_of_heap z3]; rfl
    have s1 : w3.cell? ⟨w.heap.size, 1, none⟩ = some (.int .i64 clk) := by rw [Lib.cell_of_heap z3]; rfl
    have s2 : w3.cell? ⟨w.heap.size, 2, none⟩ = some (.int .i64 rm) := by rw [Lib.cell_of_heap z3]; rfl
    clear qb t0 t1 t2
    cases b2 with
    | true =>
      go_wp2
      go_ret
      exact ⟨rfl, hB3⟩
    | false =>
      obtain ⟨hnl, hns⟩ := hb2t rfl
      have qn := New_any B E _ ns clk rm w3 (h.below hB3) (hG.keep (hB3.mono hB)) (Nat.le_trans hB hB3.size) (fun n hn => by have := (hns n hn).1; omega)
      go_wp2_with fail
      refine qn.mono ?_
      rintro r w4 ⟨hb4, hnew⟩
      have hB4 : Below w.heap.size w w4 := hB3.trans (hb4.mono hB3.size)
      have hs4 := hb4.size
      cases hN : newR ns clk rm with
      | inl k =>
        rw [hN] at hnew
        have hk0 := newR_num hN
        have hkb : ((k.num : Int) == 0) = false := beq_eq_false_iff_ne.2 (by omega)
        have hkc : ¬ (k.num : Int) = 0 := by omega
        simp only at hnew
        subst hnew
        have hnil : ∀ w : World, (binOp .eql 28 (.pointer none) (.pointer none)).run Tryz.prog w = .ok (.bool true) w := fun w => by kernel_rfl
        go_wp2_with (go_at_call 13; refine (num_any _ _).mono ?_; rintro r w5 ⟨rfl, rfl⟩)
        go_ret
        exact ⟨rfl, hB4⟩
      | inr T =>
        rw [hN] at hnew
        obtain ⟨hT, hgd, hok, hwt, _⟩ := new_inr hN
        obtain ⟨A, rfl, hfs⟩ := hnew
        have hfs1 := hfs.shrink
        have qt := Tree_any A T clk rm _ w4 hfs1
        clear qn hN hlim hml holim homl s0 s1 s2 hb1t hb2t hT
        go_wp2_with (go_at_call 13; refine (num_any _ _).mono ?_; rintro r w5 ⟨rfl, rfl⟩)
        refine qt.mono ?_
        rintro r w6 ⟨⟨vw, nw, rfl, hnw, hwT⟩, hb6⟩
        obtain ⟨vwa, vwc, rfl⟩ := hnw.nodes.len
        have hs6 := hb6.size
        have hB6 : Below w.heap.size w w6 := hB4.trans (hb6.mono hB4.size)
        have hb7 : ∀ o, Below w6.heap.size w6 (w6.alloc o) := fun o => (Below.refl _ _).alloc (Nat.le_refl _) _
        have hfs7 := fun o => (hfs1.below hb6).below (hb7 o)
        have hnw7 := fun o => hnw.below (hb7 o)
        have hB7 := fun o => hB6.trans ((hb7 o).mono hB6.size)
        have z7 := fun o => alloc_new w6 o
        obtain ⟨o1, o2, o3, o4⟩ := hok
        clear qt hfs hfs1 hb6
        go_wp2
        obtain ⟨W, hW⟩ : ∃ W, W = w6.alloc (.cells #[.slice vwa nw.length vwc, .int .i64 clk, .int .i64 rm] 24) := ⟨_, rfl⟩
        have hfsW : IsFs W (fun i => w3.heap.size ≤ i ∧ i < w5.heap.size) A T clk rm := by rw [hW]; exact hfs7 _
        have hnwW : NsAt W w5.heap.size (.slice vwa nw.length vwc) nw := by rw [hW]; exact hnw7 _
        have hBW : Below w.heap.size w W := by rw [hW]; exact hB7 _
        have zW : W.heap[w6.heap.size]? = some (.cells #[.slice vwa nw.length vwc, .int .i64 clk, .int .i64 rm] 24 (0, 0)) := by rw [hW]; exact z7 _
        have hsW : W.heap.size = w6.heap.size + 1 := by rw [hW]; simp
        rw [← hW]
        clear hfs7 hnw7 hB7 z7 hb7 hW hnw
        go_loopw [10] (fun i wr => ∃ (k : Nat) (T : Tr) (ck : Int) (vw : Value) (nw : List Nv) (S : Nat → Prop) (b : Nat), k ≤ os.length ∧ i = .int .i64 k ∧ IsFs wr S A T ck rm ∧ Gd T ck ∧ 0 ≤ ck ∧ ck ≤ clk + k ∧ nw.map toE = T ∧ WasAt wr w6.heap.size b S vw nw ck rm ∧ b ≤ wr.heap.size ∧ (∀ j, S j → w.heap.size ≤ j) ∧ w6.heap.size < wr.heap.size ∧ Below w.heap.size w wr) (fun i _ => os.length - (intOf i).toNat)
        case atStart => exact ⟨0, T, clk, _, nw, _, w5.heap.size, Nat.zero_le _, rfl, hfsW, hgd, o1, by omega, hwT, ⟨zW, hnwW, fun j hj => hj.2, fun j hj => by have := hj.2; omega⟩, by omega, fun j hj => by have := hj.1; omega, by omega, hBW⟩
        case round =>
          obtain ⟨k, T, ck, vw, nw, S, b, hk, rfl, hF, hgd, hc0, hc1, hwT, hwas, hbw, hS, hs6r, hBr⟩ := hrel
          obtain ⟨vwa, vwc, rfl⟩ := hwas.ns.nodes.len
          have hGr := hG.keep (hBr.mono hB)
          have hBs := Nat.le_trans hB hBr.size
          by_cases hkl : k < os.length
          · have k1 : (k : Int) < os.length := by omega
            obtain ⟨o, hoo⟩ : ∃ o, os[k]? = some o := ⟨_, List.getElem?_eq_getElem hkl⟩
            have hor := ho.below hBr
            rcases hor with ⟨_, e⟩ | ⟨g, of, cap, e, hcap, hrow, hrds⟩
            · rw [e] at hkl; simp at hkl
            cases e
            have d0 := hrow.c0 k o hoo
            have d1 := hrow.c1 k o hoo
            have d2 := hrow.c2 k o hoo
            have d3 := hrow.c3 k o hoo
            have hmem := List.mem_of_getElem? hoo
            obtain ⟨l1, l2, l3⟩ := hos o hmem
            have hrd := hrds o hmem
            obtain ⟨ba, bc, hbv⟩ := hrd.len
            rw [hbv] at d3 hrd
            have hst := op_ok (rm := rm) hgd hc0 o
            obtain ⟨kd, P, Q, bv, bs⟩ := o
            simp only at *
            obtain ⟨o8, ho8⟩ : ∃ o8, o8 = wr.alloc (.cells #[.int .i64 kd, .string P, .string Q, .slice ba bs.length bc] 45) := ⟨_, rfl⟩
            have hb8 : Below wr.heap.size wr o8 := by rw [ho8]; exact (Below.refl _ _).alloc (Nat.le_refl _) _
            have z8 : o8.heap[wr.heap.size]? = some (.cells #[.int .i64 kd, .string P, .string Q, .slice ba bs.length bc] 45 (0, 0)) := by rw [ho8]; exact alloc_new _ _
            have hs8 : o8.heap.size = wr.heap.size + 1 := by rw [ho8]; simp
            have hB8 : Below w.heap.size w o8 := hBr.trans (hb8.mono hBr.size)
            go_upto_block 2 with fail
            rw [← ho8]
            have hOd : opR T ck rm ⟨kd, P, Q, bv, bs⟩ = if kd.tmod 6 = 0 then writeR T ck rm (clean (tl P)) bs false else if kd.tmod 6 = 1 then writeR T ck rm (clean (tl P)) bs true else if kd.tmod 6 = 2 then mkdirR T ck rm (clean (tl P)) else if kd.tmod 6 = 3 then removeR T ck (clean (tl P)) else if kd.tmod 6 = 4 then renameR T ck (clean (tl P)) (clean (tl Q)) else touchR T ck rm (clean (tl P)) := rfl
            generalize hOO : opR T ck rm ⟨kd, P, Q, bv, bs⟩ = OO at hst hOd
            have p0 : o8.cell? ⟨wr.heap.size, 0, none⟩ = some (.int .i64 kd) := by rw [Lib.cell_of_heap z8]; rfl
            have p1 : o8.cell? ⟨wr.heap.size, 1, none⟩ = some (.string P) := by rw [Lib.cell_of_heap z8]; rfl
            have p2 : o8.cell? ⟨wr.heap.size, 2, none⟩ = some (.string Q) := by rw [Lib.cell_of_heap z8]; rfl
            have p3 : o8.cell? ⟨wr.heap.size, 3, none⟩ = some (.slice ba bs.length bc) := by rw [Lib.cell_of_heap z8]; rfl
            have hF8 := hF.below hb8
            have hG8 := hG.keep (hB8.mono hB)
            have hBs8 := Nat.le_trans hB hB8.size
            have hrd8 := hrd.below hb8
            have hSB : ∀ i, S i → B ≤ i := fun i hi => Nat.le_trans hB (hS i hi)
            clear hOO d0 d1 d2 d3 hrow hrds hrd ho8
            go_cut [12] from 47 to 135 (fun gv wc => gv = .int .i64 (OO.1 : Nat) ∧ ∃ S', IsFs wc S' A OO.2.1 OO.2.2 rm ∧ Turn S o8 wc ∧ ∀ i, S' i → S i ∨ o8.heap.size ≤ i)
            case first =>
              by_cases n0 : kd.tmod 6 = 0
              · have m0 : (kd.tmod 6 == 0) = true := by rw [n0]; rfl
                have m1 : (kd.tmod 6 == 1) = false := by rw [n0]; rfl
                have m2 : (kd.tmod 6 == 2) = false := by rw [n0]; rfl
                have m3 : (kd.tmod 6 == 3) = false := by rw [n0]; rfl
                have m4 : (kd.tmod 6 == 4) = false := by rw [n0]; rfl
                have hO : OO = writeR T ck rm (clean (tl P)) bs false := by rw [hOd, n0]; rfl
                have q := Write_any B A E T ck rm P bs _ false S o8 hF8 hG8 hBs8 hSB (by omega) (by omega) hrd8 (by omega)
                clear hOd
                go_wp2_with fail
                refine q.mono ?_
                rintro r w9 ⟨rfl, hq⟩
                go_wp2_with fail
                go_meet
                case rel => exact ⟨by rw [hO], by rw [hO]; exact hq⟩
              by_cases n1 : kd.tmod 6 = 1
              · have m0 : (kd.tmod 6 == 0) = false := by rw [n1]; rfl
                have m1 : (kd.tmod 6 == 1) = true := by rw [n1]; rfl
                have m2 : (kd.tmod 6 == 2) = false := by rw [n1]; rfl
                have m3 : (kd.tmod 6 == 3) = false := by rw [n1]; rfl
                have m4 : (kd.tmod 6 == 4) = false := by rw [n1]; rfl
                have hO : OO = writeR T ck rm (clean (tl P)) bs true := by rw [hOd, n1]; rfl
                have q := Write_any B A E T ck rm P bs _ true S o8 hF8 hG8 hBs8 hSB (by omega) (by omega) hrd8 (by omega)
                clear hOd
                go_wp2_with fail
                refine q.mono ?_
                rintro r w9 ⟨rfl, hq⟩
                go_wp2_with fail
                go_meet
                case rel => exact ⟨by rw [hO], by rw [hO]; exact hq⟩
              by_cases n2 : kd.tmod 6 = 2
              · have m0 : (kd.tmod 6 == 0) = false := by rw [n2]; rfl
                have m1 : (kd.tmod 6 == 1) = false := by rw [n2]; rfl
                have m2 : (kd.tmod 6 == 2) = true := by rw [n2]; rfl
                have m3 : (kd.tmod 6 == 3) = false := by rw [n2]; rfl
                have m4 : (kd.tmod 6 == 4) = false := by rw [n2]; rfl
                have hO : OO = mkdirR T ck rm (clean (tl P)) := by rw [hOd, n2]; rfl
                have q := Mkdir_any B A E T ck rm P S o8 hF8 hG8 hBs8 hSB (by omega) (by omega)
                clear hOd
                go_wp2_with fail
                refine q.mono ?_
                rintro r w9 ⟨rfl, hq⟩
                go_wp2_with fail
                go_meet
                case rel => exact ⟨by rw [hO], by rw [hO]; exact hq⟩
              by_cases n3 : kd.tmod 6 = 3
              · have m0 : (kd.tmod 6 == 0) = false := by rw [n3]; rfl
                have m1 : (kd.tmod 6 == 1) = false := by rw [n3]; rfl
                have m2 : (kd.tmod 6 == 2) = false := by rw [n3]; rfl
                have m3 : (kd.tmod 6 == 3) = true := by rw [n3]; rfl
                have m4 : (kd.tmod 6 == 4) = false := by rw [n3]; rfl
                have hO : OO = removeR T ck (clean (tl P)) := by rw [hOd, n3]; rfl
                have q := Remove_any B A E T ck rm P S o8 hF8 hG8 hBs8 hSB (by omega) (by omega)
                clear hOd
                go_wp2_with fail
                refine q.mono ?_
                rintro r w9 ⟨rfl, hq⟩
                go_wp2_with fail
                go_meet
                case rel => exact ⟨by rw [hO], by rw [hO]; exact hq⟩
              by_cases n4 : kd.tmod 6 = 4
              · have m0 : (kd.tmod 6 == 0) = false := by rw [n4]; rfl
                have m1 : (kd.tmod 6 == 1) = false := by rw [n4]; rfl
                have m2 : (kd.tmod 6 == 2) = false := by rw [n4]; rfl
                have m3 : (kd.tmod 6 == 3) = false := by rw [n4]; rfl
                have m4 : (kd.tmod 6 == 4) = true := by rw [n4]; rfl
                have hO : OO = renameR T ck (clean (tl P)) (clean (tl Q)) := by rw [hOd, n4]; rfl
                have q := Rename_any B A E T ck rm P Q S o8 hF8 hG8 hBs8 hSB (by omega) (by omega) (by omega)
                clear hOd
                go_wp2_with fail
                refine q.mono ?_
                rintro r w9 ⟨rfl, hq⟩
                go_wp2_with fail
                go_meet
                case rel => exact ⟨by rw [hO], by rw [hO]; exact hq⟩
              have m0 : (kd.tmod 6 == 0) = false := beq_eq_false_iff_ne.2 n0
              have m1 : (kd.tmod 6 == 1) = false := beq_eq_false_iff_ne.2 n1
              have m2 : (kd.tmod 6 == 2) = false := beq_eq_false_iff_ne.2 n2
              have m3 : (kd.tmod 6 == 3) = false := beq_eq_false_iff_ne.2 n3
              have m4 : (kd.tmod 6 == 4) = false := beq_eq_false_iff_ne.2 n4
              have hO : OO = touchR T ck rm (clean (tl P)) := by rw [hOd, if_neg n0, if_neg n1, if_neg n2, if_neg n3, if_neg n4]
              have q := Touch_any B A E T ck rm P S o8 hF8 hG8 hBs8 hSB (by omega) (by omega)
              clear hOd
              go_wp2_with fail
              refine q.mono ?_
              rintro r w9 ⟨rfl, hq⟩
              go_wp2_with fail
              go_meet
              case rel => exact ⟨by rw [hO], by rw [hO]; exact hq⟩
            case rest =>
              obtain ⟨rfl, S', hF9, ht9, hS9⟩ := hcut
              obtain ⟨en, T', ck'⟩ := OO
              simp only at hF9
              clear hOd hrd8 p0 p1 p2 p3 hoo hmem
              have hF10 := hF9.shrink
              have hst1 := hst.lo
              have hst2 := hst.hi
              have hst3 := hst.err
              have hst4 := hst.same
              have hst5 := hst.gd
              simp only at hst1 hst2 hst3 hst4 hst5
              have hsc := ht9.size
              have hBc : Below w.heap.size w wc := hB8.trans (ht9.below hB8.size hS)
              have hwn : NsAt wc b (.slice vwa nw.length vwc) nw := (hwas.ns.below hb8).turn ht9 hwas.lo
              have hwb : wc.heap[w6.heap.size]? = some (.cells #[.slice vwa nw.length vwc, .int .i64 ck, .int .i64 rm] 24 (0, 0)) := (ht9.block _ (by omega) (fun hs => hwas.ne _ hs rfl)).trans ((hb8.block _ hs6r).trans hwas.blk)
              have qt := Tree_any A T' ck' rm _ wc hF10
              go_wp2_with fail
              refine qt.mono ?_
              rintro r w10 ⟨⟨vn, nn, rfl, hnn, hnT⟩, hb10⟩
              obtain ⟨vna, vnc, rfl⟩ := hnn.nodes.len
              clear qt
              obtain ⟨w11, hw11⟩ : ∃ w11, w11 = w10.alloc (.cells #[.slice vna nn.length vnc, .int .i64 ck', .int .i64 rm] 24) := ⟨_, rfl⟩
              have hs10 := hb10.size
              have hb11 : Below w10.heap.size w10 w11 := by rw [hw11]; exact (Below.refl _ _).alloc (Nat.le_refl _) _
              have z11 : w11.heap[w10.heap.size]? = some (.cells #[.slice vna nn.length vnc, .int .i64 ck', .int .i64 rm] 24 (0, 0)) := by rw [hw11]; exact alloc_new _ _
              have hs11 : w11.heap.size = w10.heap.size + 1 := by rw [hw11]; simp
              have hwb11 := (hb11.block _ (by omega)).trans ((hb10.block _ (by omega)).trans hwb)
              have hnl : nn.length ≤ 1000 := by have := hF9.len; rw [← hnT, List.length_map] at this; exact this
              have qs := Same_any _ _ nw nn ck rm ck' rm w11 ((hwn.below hb10).below hb11).nodes (hnn.below hb11).nodes (by omega)
              have a0 : w11.cell? ⟨w6.heap.size, 0, none⟩ = some (.slice vwa nw.length vwc) := by rw [Lib.cell_of_heap hwb11]; rfl
              have a1 : w11.cell? ⟨w6.heap.size, 1, none⟩ = some (.int .i64 ck) := by rw [Lib.cell_of_heap hwb11]; rfl
              have a2 : w11.cell? ⟨w6.heap.size, 2, none⟩ = some (.int .i64 rm) := by rw [Lib.cell_of_heap hwb11]; rfl
              have n0 : w11.cell? ⟨w10.heap.size, 0, none⟩ = some (.slice vna nn.length vnc) := by rw [Lib.cell_of_heap z11]; rfl
              have n1 : w11.cell? ⟨w10.heap.size, 1, none⟩ = some (.int .i64 ck') := by rw [Lib.cell_of_heap z11]; rfl
              have n2 : w11.cell? ⟨w10.heap.size, 2, none⟩ = some (.int .i64 rm) := by rw [Lib.cell_of_heap z11]; rfl
              go_upto_region 26 with fail
              rw [← hw11]
              clear hw11
              go_wp2_with fail
              refine qs.mono ?_
              rintro r w12 ⟨⟨bs2, rfl, hbs⟩, hb12⟩
              have hs12 := hb12.size
              rw [hwT, hnT] at hbs
              have hwb12 := (hb12.block _ (by omega)).trans hwb11
              have z12 := (hb12.block _ (by omega)).trans z11
              have e0 : w12.cell? ⟨w6.heap.size, 0, none⟩ = some (.slice vwa nw.length vwc) := by rw [Lib.cell_of_heap hwb12]; rfl
              have e1 : w12.cell? ⟨w6.heap.size, 1, none⟩ = some (.int .i64 ck) := by rw [Lib.cell_of_heap hwb12]; rfl
              have e2 : w12.cell? ⟨w6.heap.size, 2, none⟩ = some (.int .i64 rm) := by rw [Lib.cell_of_heap hwb12]; rfl
              have f0 : w12.cell? ⟨w10.heap.size, 0, none⟩ = some (.slice vna nn.length vnc) := by rw [Lib.cell_of_heap z12]; rfl
              have f1 : w12.cell? ⟨w10.heap.size, 1, none⟩ = some (.int .i64 ck') := by rw [Lib.cell_of_heap z12]; rfl
              have f2 : w12.cell? ⟨w10.heap.size, 2, none⟩ = some (.int .i64 rm) := by rw [Lib.cell_of_heap z12]; rfl
              have g0 := Lib.frozen_of_heap hwb12 0
              have g1 := Lib.frozen_of_heap hwb12 1
              have g2 := Lib.frozen_of_heap hwb12 2
              have hbc12 : Below wc.heap.size wc w12 := hb10.trans ((hb11.mono hs10).trans (hb12.mono (by omega)))
              have hnn12 := (hnn.below hb11).below hb12
              obtain ⟨w13, hw13⟩ : ∃ w13, w13 = ((w12.setCell ⟨w6.heap.size, 0, none⟩ (.slice vna nn.length vnc)).setCell ⟨w6.heap.size, 1, none⟩ (.int .i64 ck')).setCell ⟨w6.heap.size, 2, none⟩ (.int .i64 rm) := ⟨_, rfl⟩
              have ht13 : Turn (fun i => i = w6.heap.size) w12 w13 := by rw [hw13]; exact ((turn_one _ _ _ _).trans' (turn_one _ _ _ _)).trans' (turn_one _ _ _ _)
              have hwb13 : w13.heap[w6.heap.size]? = some (.cells #[.slice vna nn.length vnc, .int .i64 ck', .int .i64 rm] 24 (0, 0)) := by rw [hw13]; exact set_row (set_row (set_row hwb12 0 _) 1 _) 2 _
              have hs13 := ht13.size
              have hSne : ∀ i, S' i → i ≠ w6.heap.size := fun i hi e => by
                rcases hS9 i hi with h5 | h5
                · exact hwas.ne i h5 e
                · omega
              have hfin : ∃ (k_1 : Nat) (T : Tr) (ck : Int) (vw : Value) (nw : List Nv) (S : Nat → Prop) (b : Nat), k_1 ≤ os.length ∧ Value.int .i64 ((k : Int) + 1) = .int .i64 k_1 ∧ IsFs w13 S A T ck rm ∧ Gd T ck ∧ 0 ≤ ck ∧ ck ≤ clk + k_1 ∧ nw.map toE = T ∧ WasAt w13 w6.heap.size b S vw nw ck rm ∧ b ≤ w13.heap.size ∧ (∀ j, S j → w.heap.size ≤ j) ∧ w6.heap.size < w13.heap.size ∧ Below w.heap.size w w13 := by
                refine ⟨k + 1, T', ck', .slice vna nn.length vnc, nn, _, wc.heap.size, by omega, by simp, (hF10.below hbc12).apart hs13 (fun i hi => ht13.block i (by have := hi.2; omega) (hSne i hi.1)), hst5, by omega, by omega, hnT, ⟨hwb13, hnn12.turn ht13 (fun j hj => by omega), fun j hj => hj.2, fun j hj => hSne j hj.1⟩, by omega, fun j hj => ?_, by omega, ?_⟩
                · rcases hS9 j hj.1 with h5 | h5
                  · exact hS j h5
                  · have := hB8.size; omega
                · exact (hBc.trans (hbc12.mono hBc.size)).trans (ht13.below (Nat.le_trans hBc.size hbc12.size) (fun i hi => by rw [hi]; have := hB6.size; omega))
              have HW := hide' hw13
              have HF := hide' hfin
              have hbd : ck ≤ 549755813888 + 200 := by omega
              clear hw13 hfin hwas hwn hwb hwb11 hwb12 z11 z12 a0 a1 a2 n0 n1 n2 hnn hnn12 hb10 hb11 hb12 hbc12 qs hF9 hF10 hF8 hF ht9 hS9 hBc hst hst5 ht13 hwb13 hSne
              have hdec : (bs2 = true ∧ ck' = ck) ∨ (bs2 = false ∧ ¬ ck' = ck ∧ en = 0) := by
                cases bs2 with
                | true => exact .inl ⟨rfl, (hbs.1 rfl).1.symm⟩
                | false =>
                  have hne : ¬ ck' = ck := fun e => by
                    have e3 := hst4 e
                    exact absurd (hbs.2 ⟨e.symm, trivial, e3.symm⟩) (by simp)
                  refine .inr ⟨rfl, hne, ?_⟩
                  by_cases he : en = 0
                  · exact he
                  · exact absurd (hst3 he).2 hne
              clear hbs hst3 hst4 hwT hnT hs10 hs11 hs12 hs13 hsc hnl hs8 hs6r hbw hBs hBs8 hGr hG8 hSB hB8 hb8 z8 hBr hgd hS
              have he : en = 0 ∨ (((en : Int) == 0) = false ∧ ¬ (en : Int) = 0) := by
                by_cases he : en = 0
                · exact .inl he
                · exact .inr ⟨beq_eq_false_iff_ne.2 (by omega), by omega⟩
              rcases hdec with ⟨rfl, rfl⟩ | ⟨rfl, hne, rfl⟩
              · have c1 : ¬ ck' < ck' := by omega
                have c2 : ¬ ck' + 1 < ck' := by omega
                clear hst1 hst2
                clear hs0 hs1 hs2 hs3 hs4 hs6 hsW z0 z2 z3 zW hfsW hnwW hBW hwt hgd hwT h ho hos hns hbv hb0 hb1 hb2 hb3 hb4 hB1 hB2 hB3 hB4 hG
                rcases he with rfl | ⟨he1, he2⟩
                · go_upto_region 27 with fail
                  go_cut [134] from 47 to 135 (fun c wx => c = .bool false ∧ wx = w12)
                  case first =>
                    go_wp2_with (go_at_call 13; refine (num_any _ _).mono ?_; rintro r w14 ⟨rfl, rfl⟩)
                    go_meet
                    case rel => first | exact ⟨rfl, rfl⟩ | exact ⟨by rw [decide_eq_false (by omega)], rfl⟩ | exact ⟨by rw [decide_eq_false (by omega), decide_eq_false (by omega)], rfl⟩ | exact ⟨by rw [decide_eq_false (by omega)]; rfl, rfl⟩ | exact ⟨by rw [decide_eq_false (by omega), decide_eq_false (by omega)]; rfl, rfl⟩
                  case rest =>
                    obtain ⟨rfl, hcw⟩ := hcut
                    subst hcw
                    go_wp2_with fail
                    have hw13 := HW.out
                    subst hw13
                    exact ⟨HF.out, by simp [intOf]; omega⟩
                · go_upto_region 27 with fail
                  go_cut [134] from 47 to 135 (fun c wx => c = .bool false ∧ wx = w12)
                  case first =>
                    go_wp2_with (go_at_call 13; refine (num_any _ _).mono ?_; rintro r w14 ⟨rfl, rfl⟩)
                    go_meet
                    case rel => first | exact ⟨rfl, rfl⟩ | exact ⟨by rw [decide_eq_false (by omega)], rfl⟩ | exact ⟨by rw [decide_eq_false (by omega), decide_eq_false (by omega)], rfl⟩ | exact ⟨by rw [decide_eq_false (by omega)]; rfl, rfl⟩ | exact ⟨by rw [decide_eq_false (by omega), decide_eq_false (by omega)]; rfl, rfl⟩
                  case rest =>
                    obtain ⟨rfl, hcw⟩ := hcut
                    subst hcw
                    go_wp2_with fail
                    have hw13 := HW.out
                    subst hw13
                    exact ⟨HF.out, by simp [intOf]; omega⟩
              · have c1 : ¬ ck' < ck := by omega
                have c2 : ¬ ck + 1 < ck' := by omega
                have c3 : (ck' == ck) = false := beq_eq_false_iff_ne.2 hne
                clear hst1 hst2
                clear hs0 hs1 hs2 hs3 hs4 hs6 hsW z0 z2 z3 zW hfsW hnwW hBW hwt hgd hwT h ho hos hns hbv hb0 hb1 hb2 hb3 hb4 hB1 hB2 hB3 hB4 hG
                go_upto_region 27 with fail
                go_cut [134] from 47 to 135 (fun c wx => c = .bool false ∧ wx = w12)
                case first =>
                  go_wp2_with (go_at_call 13; refine (num_any _ _).mono ?_; rintro r w14 ⟨rfl, rfl⟩)
                  go_meet
                  case rel => exact ⟨by rw [decide_eq_false (by omega), decide_eq_false (by omega)]; rfl, rfl⟩
                case rest =>
                  obtain ⟨rfl, hcw⟩ := hcut
                  subst hcw
                  go_wp2_with fail
                  have hw13 := HW.out
                  subst hw13
                  exact ⟨HF.out, by simp [intOf]; omega⟩
          · obtain rfl : k = os.length := by omega
            have k1 : ¬ (os.length : Int) < os.length := by omega
            have y0 : wr.cell? ⟨w6.heap.size, 0, none⟩ = some (.slice vwa nw.length vwc) := by rw [Lib.cell_of_heap hwas.blk]; rfl
            have y1 : wr.cell? ⟨w6.heap.size, 1, none⟩ = some (.int .i64 ck) := by rw [Lib.cell_of_heap hwas.blk]; rfl
            have y2 : wr.cell? ⟨w6.heap.size, 2, none⟩ = some (.int .i64 rm) := by rw [Lib.cell_of_heap hwas.blk]; rfl
            have hnl2 : nw.length ≤ 1000 := by have := hF.len; rw [← hwT, List.length_map] at this; exact this
            have hw2 := hF.wt
            have hnew := new_of_gd (ns := nw) (clk := ck) (rm := rm) (by rw [hwT]; exact hgd) ⟨hc0, by omega, o3, o4⟩ (by rw [hwT]; exact hw2) hnl2
            have qn := New_any B E _ nw ck rm wr hwas.ns.nodes hGr hBs (fun n hn => by
              have hv : valid n.path = true := (hgd.val (toE n) (by rw [← hwT]; exact List.mem_map.2 ⟨n, hn, rfl⟩)).1
              unfold valid at hv
              simp only [Bool.and_eq_true, decide_eq_true_eq] at hv
              have := hv.1.1
              omega)
            rw [hnew] at qn
            go_wp2_with fail
            refine qn.mono ?_
            rintro r w8 ⟨hb8, G8, rfl, _⟩
            go_wp2_with (go_at_call 13; refine (num_any _ _).mono ?_; rintro r w9 ⟨rfl, rfl⟩)
            go_ret
            exact ⟨rfl, hBr.trans (hb8.mono hBr.size)⟩
set_option maxRecDepth 100000 in
set_option maxHeartbeats 8000000 in
theorem right_far (B : Nat) (E : Addr) (v ov : Value) (ns : List Nv) (os : List Ov) (clk rm : Int) (w : World) (h : Nodes w v ns) (ho : OpsAt w ov os) (hG : Glo B w E) (hB : B ≤ w.heap.size) (hlim : ∀ n ∈ ns, Lim n) (hml : ns.length ≤ 140737488355328) (holim : ∀ n ∈ os, OLim n) (homl : os.length ≤ 140737488355328) (hck : 549755813888 < clk) :
    Calls Tryz.prog 5 #[.agg #[v, .int .i64 clk, .int .i64 rm], ov] w fun r w' => r = .returned (.bool true) ∧ Below w.heap.size w w' := by
  obtain ⟨va, vc, rfl⟩ := h.len
  obtain ⟨oa, oc, rfl⟩ := ho.len
  have hb0 : Below w.heap.size w (w.alloc (.cells #[.slice va ns.length vc, .int .i64 clk, .int .i64 rm] 24)) := (Below.refl _ _).alloc (Nat.le_refl _) _
  have z0 := alloc_new w (.cells #[.slice va ns.length vc, .int .i64 clk, .int .i64 rm] 24)
  obtain ⟨w0, hw0⟩ : ∃ w0, w0 = w.alloc (.cells #[.slice va ns.length vc, .int .i64 clk, .int .i64 rm] 24) := ⟨_, rfl⟩
  have hs0 : w0.heap.size = w.heap.size + 1 := by rw [hw0]; simp
  rw [← hw0] at hb0 z0
  have qa := alive_any B E w0 (hG.keep (hb0.mono hB)) (Nat.le_trans hB hb0.size)
  go_enter Tryz.func5, Tryz.ntmps5
  go_wp2_with fail
  rw [← hw0]
  refine qa.mono ?_
  rintro r w1 ⟨rfl, hb1⟩
  have hB1 : Below w.heap.size w w1 := hb0.trans (hb1.mono hb0.size)
  have hs1 := hb1.size
  clear qa hw0
  have qm := Much_any _ os w1 (ho.below hB1) holim homl
  go_wp2_with fail
  refine qm.mono ?_
  rintro r w2 ⟨⟨b1, rfl, hb1t⟩, hb2⟩
  have hB2 : Below w.heap.size w w2 := hB1.trans (hb2.mono hB1.size)
  have hs2 := hb2.size
  have z2 := (hb2.block w.heap.size (by omega)).trans ((hb1.block w.heap.size (by omega)).trans z0)
  have t0 : w2.cell? ⟨w.heap.size, 0, none⟩ = some (.slice va ns.length vc) := by rw [Lib.cell_of_heap z2]; rfl
  have t1 : w2.cell? ⟨w.heap.size, 1, none⟩ = some (.int .i64 clk) := by rw [Lib.cell_of_heap z2]; rfl
  have t2 : w2.cell? ⟨w.heap.size, 2, none⟩ = some (.int .i64 rm) := by rw [Lib.cell_of_heap z2]; rfl
  clear qm
  cases b1 with
  | true =>
    go_wp2
    go_ret
    exact ⟨rfl, hB2⟩
  | false =>
    have qb := Big_any _ ns clk rm w2 (h.below hB2) hlim hml
    go_wp2_with fail
    refine qb.mono ?_
    rintro r w3 ⟨⟨b2, rfl, hb2t⟩, hb3⟩
    have hB3 : Below w.heap.size w w3 := hB2.trans (hb3.mono hB2.size)
    have hs3 := hb3.size
    have z3 := (hb3.block w.heap.size (by omega)).trans z2
    have s0 : w3.cell? ⟨w.heap.size, 0, none⟩ = some (.slice va ns.length vc) := by rw [Lib.cell_of_heap z3]; rfl
    have s1 : w3.cell? ⟨w.heap.size, 1, none⟩ = some (.int .i64 clk) := by rw [Lib.cell_of_heap z3]; rfl
    have s2 : w3.cell? ⟨w.heap.size, 2, none⟩ = some (.int .i64 rm) := by rw [Lib.cell_of_heap z3]; rfl
    clear qb t0 t1 t2
    cases b2 with
    | true =>
      go_wp2
      go_ret
      exact ⟨rfl, hB3⟩
    | false =>
      go_wp2
      go_ret
      exact ⟨rfl, hB3⟩
/-- VfsRight -/
theorem right_any (B : Nat) (E : Addr) (v ov : Value) (ns : List Nv) (os : List Ov) (clk rm : Int) (w : World) (h : Nodes w v ns) (ho : OpsAt w ov os) (hG : Glo B w E) (hB : B ≤ w.heap.size) (hlim : ∀ n ∈ ns, Lim n) (hml : ns.length ≤ 140737488355328) (holim : ∀ n ∈ os, OLim n) (homl : os.length ≤ 140737488355328) :
    Calls Tryz.prog 5 #[.agg #[v, .int .i64 clk, .int .i64 rm], ov] w fun r w' => r = .returned (.bool true) ∧ Below w.heap.size w w' := by
  by_cases hck : 549755813888 < clk
  · exact right_far B E v ov ns os clk rm w h ho hG hB hlim hml holim homl hck
  · exact right_go B E v ov ns os clk rm w h ho hG hB hlim hml holim homl hck
end Go.Proofs.YtamohpcdchhbbaaGreatDoor
