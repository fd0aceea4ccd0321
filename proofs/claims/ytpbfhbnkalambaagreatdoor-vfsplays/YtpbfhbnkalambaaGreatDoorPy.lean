/- The law VfsPlays, walked. -/
import Derived.Test.YtpbfhbnkalambaaGreatDoorCh
import Derived.Test.YtpbfhbnkalambaaGreatDoorLo
import Derived.Test.YtpbfhbnkalambaaGreatDoorZv
import Derived.Test.YtpbfhbnkalambaaGreatDoorZd
namespace Go.Proofs.YtpbfhbnkalambaaGreatDoor
open Go.RowKit Go.Maps

/-- a twin that lies beside -/
structure TwinAt (w : World) (St Sf Sr : Nat → Prop) (G : Nat) (T : Tr) (clk rm : Int) : Prop where
  fs : IsFs w St G T clk rm
  ap : ∀ i, St i → ¬ Sf i ∧ ¬ Sr i
  lt : ∀ i, St i → i < w.heap.size
theorem TwinAt.below {w w' : World} {St Sf Sr : Nat → Prop} {G : Nat} {T : Tr} {clk rm : Int} (h : TwinAt w St Sf Sr G T clk rm) (hb : Below w.heap.size w w') : TwinAt w' St Sf Sr G T clk rm :=
  ⟨h.fs.below hb, h.ap, fun i hi => Nat.lt_of_lt_of_le (h.lt i hi) hb.size⟩
theorem TwinAt.step {w w' : World} {St Sf Sr Sf' Sr' : Nat → Prop} {G : Nat} {T : Tr} {clk rm : Int} (h : TwinAt w St Sf Sr G T clk rm) (ht : Turn (fun i => Sf i ∨ Sr i) w w') (hf : ∀ i, Sf' i → Sf i ∨ w.heap.size ≤ i) (hr : ∀ i, Sr' i → Sr i ∨ w.heap.size ≤ i) : TwinAt w' St Sf' Sr' G T clk rm := by
  refine ⟨h.fs.apart ht.size fun b hb => ht.block b (h.lt b hb) fun hs => hs.elim (h.ap b hb).1 (h.ap b hb).2, fun i hi => ⟨fun hs => ?_, fun hs => ?_⟩, fun i hi => Nat.lt_of_lt_of_le (h.lt i hi) ht.size⟩
  · rcases hf i hs with e | e
    · exact (h.ap i hi).1 e
    · have := h.lt i hi; omega
  · rcases hr i hs with e | e
    · exact (h.ap i hi).2 e
    · have := h.lt i hi; omega
theorem both_below {w0 w w' : World} {lo : Nat} {Sf Sr : Nat → Prop} {A R : Nat} {v : Value} {ns : List Nv} {clk rm : Int} (h : BothAt w lo Sf Sr A R v ns clk rm) {b : Nat} (hb : Below b w0 w) (hbl : b ≤ lo) (hlo : b ≤ w.heap.size) (ht : Turn (fun i => Sf i ∨ Sr i) w w') : Below b w0 w' :=
  hb.trans (ht.below hlo fun i hi => hi.elim (fun e => Nat.le_trans hbl (h.hf i e).1) fun e => Nat.le_trans hbl (h.hr i e).1)
theorem NsAt.own {w : World} {b0 : Nat} {v : Value} {ns : List Nv} (h : NsAt w b0 v ns) : NOwn w v ns := by
  rcases h.row with h1 | ⟨g, cap, cur, rfl, _, hg, h1, h2, h3⟩
  · exact .inl h1
  · exact .inr ⟨g, cap, cur, rfl, hg, h1, h2, h3⟩
theorem NsAt.vhi {w : World} {b0 : Nat} {v : Value} {ns : List Nv} (h : NsAt w b0 v ns) : ∀ g, v.ownBlock = some g → b0 ≤ g := fun g hg => by
  rcases h.row with ⟨rfl, _⟩ | ⟨g', cap, cur, rfl, hb, _⟩
  · cases hg
  · cases hg; exact hb
structure BxC (b : Nat) (v : Value) (clk rm : Int) (w : World) : Prop where
  c0 : w.cell? ⟨b, 0, none⟩ = some v
  c1 : w.cell? ⟨b, 1, none⟩ = some (.int .i64 clk)
  c2 : w.cell? ⟨b, 2, none⟩ = some (.int .i64 rm)
set_option maxRecDepth 100000 in
set_option maxHeartbeats 8000000 in
theorem plays_any (B : Nat) (E : Addr) (v ov : Value) (ns : List Nv) (os : List Ov) (clk rm : Int) (w : World) (h : Nodes w v ns) (ho : OpsAt w ov os) (hG : Glo B w E) (hB : B ≤ w.heap.size) (hlim : ∀ n ∈ ns, Lim n) (hml : ns.length ≤ 140737488355328) (holim : ∀ n ∈ os, OLim n) (homl : os.length ≤ 140737488355328) :
    Calls Tryz.prog 4 #[.agg #[v, .int .i64 clk, .int .i64 rm], ov] w fun r w' => r = .returned (.bool true) ∧ Below w.heap.size w w' := by
  obtain ⟨va, vc, rfl⟩ := h.len
  obtain ⟨oa, oc, rfl⟩ := ho.len
  have hb0 : Below w.heap.size w (w.alloc (.cells #[.slice va ns.length vc, .int .i64 clk, .int .i64 rm] 24)) := (Below.refl _ _).alloc (Nat.le_refl _) _
  have z0 := alloc_new w (.cells #[.slice va ns.length vc, .int .i64 clk, .int .i64 rm] 24)
  obtain ⟨w0, hw0⟩ : ∃ w0, w0 = w.alloc (.cells #[.slice va ns.length vc, .int .i64 clk, .int .i64 rm] 24) := ⟨_, rfl⟩
  have hs0 : w0.heap.size = w.heap.size + 1 := by rw [hw0]; simp
  rw [← hw0] at hb0 z0
  have qa := alive_any B E w0 (hG.keep (hb0.mono hB)) (Nat.le_trans hB hb0.size)
  go_enter Tryz.func4, Tryz.ntmps4
  go_wp2_with fail
  rw [← hw0]
  refine qa.mono ?_
  rintro r w1 ⟨rfl, hb1⟩
  have hB1 : Below w.heap.size w w1 := hb0.trans (hb1.mono hb0.size)
  have hs1 := hb1.size
  clear qa hw0
  have qm := Much_any _ os w1 (ho.below hB1) holim homl
  go_wp2_with fail
  refine qm.mono ?_
  rintro r w2 ⟨⟨b1, rfl, hb1t⟩, hb2⟩
  have hB2 : Below w.heap.size w w2 := hB1.trans (hb2.mono hB1.size)
  have hs2 := hb2.size
  have z2 := (hb2.block w.heap.size (by omega)).trans ((hb1.block w.heap.size (by omega)).trans z0)
  have t0 : w2.cell? ⟨w.heap.size, 0, none⟩ = some (.slice va ns.length vc) := by rw [Lib.cell_of_heap z2]; rfl
  have t1 : w2.cell? ⟨w.heap.size, 1, none⟩ = some (.int .i64 clk) := by rw [Lib.cell_of_heap z2]; rfl
  have t2 : w2.cell? ⟨w.heap.size, 2, none⟩ = some (.int .i64 rm) := by rw [Lib.cell_of_heap z2]; rfl
  clear qm
  cases b1 with
  | true =>
    go_wp2
    go_ret
    exact ⟨rfl, hB2⟩
  | false =>
    obtain ⟨hol, hos⟩ := hb1t rfl
    have qb := Big_any _ ns clk rm w2 (h.below hB2) hlim hml
    go_wp2_with fail
    refine qb.mono ?_
    rintro r w3 ⟨⟨b2, rfl, hb2t⟩, hb3⟩
    have hB3 : Below w.heap.size w w3 := hB2.trans (hb3.mono hB2.size)
    have hs3 := hb3.size
    have z3 := (hb3.block w.heap.size (by omega)).trans z2
    have s0 : w3.cell? ⟨w.heap.size, 0, none⟩ = some (.slice va ns.length vc) := by rw [Lib.cell_of_heap z3]; rfl
    have s1 : w3.cell? ⟨w.heap.size, 1, none⟩ = some (.int .i64 clk) := by rw [Lib.cell_of_heap z3]; rfl
    have s2 : w3.cell? ⟨w.heap.size, 2, none⟩ = some (.int .i64 rm) := by rw [Lib.cell_of_heap z3]; rfl
    clear qb t0 t1 t2
    cases b2 with
    | true =>
      go_wp2
      go_ret
      exact ⟨rfl, hB3⟩
    | false =>
      obtain ⟨hnl, hns⟩ := hb2t rfl
      have hsz : ∀ n ∈ ns, n.path.length ≤ 300000 := fun n hn => (hns n hn).1
      have qn := New_any B E _ ns clk rm w3 (h.below hB3) (hG.keep (hB3.mono hB)) (Nat.le_trans hB hB3.size) (fun n hn => by have := hsz n hn; omega)
      go_wp2_with fail
      refine qn.mono ?_
      rintro r w4 ⟨hb4, hnew⟩
      have hB4 : Below w.heap.size w w4 := hB3.trans (hb4.mono hB3.size)
      have hs4 := hb4.size
      have z4 := (hb4.block w.heap.size (by omega)).trans z3
      have u0 : w4.cell? ⟨w.heap.size, 0, none⟩ = some (.slice va ns.length vc) := by rw [Lib.cell_of_heap z4]; rfl
      have u1 : w4.cell? ⟨w.heap.size, 1, none⟩ = some (.int .i64 clk) := by rw [Lib.cell_of_heap z4]; rfl
      have u2 : w4.cell? ⟨w.heap.size, 2, none⟩ = some (.int .i64 rm) := by rw [Lib.cell_of_heap z4]; rfl
      have qr := rnew_any _ ns clk rm w4 (h.below hB4) hsz
      clear s0 s1 s2 qn
      cases hN : newR ns clk rm with
      | inl k =>
        rw [hN] at hnew qr
        have hk0 := newR_num hN
        have hkb : ((k.num : Int) == 0) = false := beq_eq_false_iff_ne.2 (by omega)
        have hkc : ¬ (k.num : Int) = 0 := by omega
        simp only at hnew
        subst hnew
        have hnil : ∀ w : World, (binOp .eql 28 (.pointer none) (.pointer none)).run Tryz.prog w = .ok (.bool true) w := fun w => by kernel_rfl
        have HB4 := hide' hB4
        clear hN hb4 hB4 h ho hlim holim hb1t hb2t hns hos hsz
        dsimp only
        go_wp2_with fail
        refine qr.mono ?_
        rintro r w5 ⟨hb5, hr5⟩
        simp only at hr5
        subst hr5
        have HB5 := hide' (HB4.out.trans (hb5.mono HB4.out.size))
        clear qr hb5
        dsimp only
        go_wp2_with (go_at_call 13; refine (num_any _ _).mono ?_; rintro r w6 ⟨rfl, rfl⟩)
        · rename_i hx
          exfalso
          rw [bne, hkb] at hx
          cases hx
        · go_ret
          exact ⟨rfl, HB5.out⟩
      | inr T =>
        rw [hN] at hnew qr
        obtain ⟨hT, hgd, hok, hwt, hlr⟩ := new_inr hN
        obtain ⟨A, rfl, hfs⟩ := hnew
        have hnA := eq_fs_nil A
        have hfs1 := hfs.shrink
        have HB4 := hide' hB4
        have HZ4 := hide' z4
        clear hN hb4 hfs hlim hml holim homl hb1t hb2t
        dsimp only
        go_wp2_with fail
        refine qr.mono ?_
        rintro r w5 ⟨hb5, R, vr, ms, rfl, hR, hrb, hms, hmT⟩
        have hs5 := hb5.size
        have HB5 := hide' (HB4.out.trans (hb5.mono HB4.out.size))
        have z5 := (hb5.block w.heap.size (by omega)).trans HZ4.out
        have hF5 := hfs1.below hb5
        have hms1 : ms.length ≤ 1000 := by
          have := hF5.len
          rw [← hmT, List.length_map] at this
          exact this
        obtain ⟨o1, o2, o3, o4⟩ := hok
        have hBoth5 : BothAt w5 (w.heap.size + 1) (fun i => w3.heap.size ≤ i ∧ i < w4.heap.size) (fun i => w4.heap.size ≤ i ∧ i < w5.heap.size) A R vr ms clk rm := by
          refine ⟨by rw [hmT]; exact hF5, ⟨⟨hrb, hms.own, hms.dat, ⟨hR, lt_of_block hrb⟩, fun g hg => ⟨hms.vhi g hg, hms.own.lt g hg⟩, fun n hn g hg => ⟨hms.hi n hn g hg, (hms.dat n hn).lt g hg⟩⟩, by rw [hmT]; exact hgd, hms1, by rw [hmT]; exact hF5.wt, hF5.rm, hF5.clk0, by omega⟩, fun i h1 h2 => ?_, fun i hi => ?_, fun i hi => ?_⟩
          · have := h1.2; have := h2.1; omega
          · have := hi.1; have := hi.2; exact ⟨by omega, by omega⟩
          · have := hi.1; have := hi.2; exact ⟨by omega, by omega⟩
        obtain ⟨M, L, hFa, hOa, hLT⟩ := hF5.mem
        have hll : L.length ≤ 1000 := by have := hF5.len; rw [← hLT, nds_length] at this; exact this
        have hwn : weight (nds L) ≤ 1048576 := by rw [hLT]; have h1 := hF5.wt; have h2 := hF5.rm; omega
        have qt := Twin_any A M L _ clk rm w5 hFa (by omega) (fun e he => Nat.le_trans (data_le hwn e he) (by omega))
        have HBO5 := hide' hBoth5
        have HF5 := hide' hF5
        have HZ5 := hide' z5
        clear qr hb5 hfs1 hBoth5 hrb hms z5 hOa hFa hwn
        dsimp only
        go_wp2_with (go_at_call 13; refine (num_any _ _).mono ?_; rintro r w6 ⟨rfl, rfl⟩)
        refine qt.mono ?_
        rintro r w7 ⟨G, M', L', rfl, hf7, ho7, hn7, hb7⟩
        have hs7 := hb7.size
        have hnG := eq_fs_nil G
        have HB7 := hide' (HB5.out.trans (hb7.mono HB5.out.size))
        have HZ7 := hide' ((hb7.block w.heap.size (by omega)).trans HZ5.out)
        have HBO7 := hide' (HBO5.out.below hb7)
        have hTw0 : IsFs w7 (fun i => w6.heap.size ≤ i) G T clk rm := by
          refine ⟨⟨M', L', ?_, ho7, by rw [hn7, hLT]⟩, HF5.out.wt, HF5.out.rm, HF5.out.clk0, HF5.out.len⟩
          exact hf7
        have hTw : TwinAt w7 (fun i => w6.heap.size ≤ i ∧ i < w7.heap.size) (fun i => w3.heap.size ≤ i ∧ i < w4.heap.size) (fun i => w4.heap.size ≤ i ∧ i < w6.heap.size) G T clk rm :=
          ⟨hTw0.shrink, fun i hi => ⟨fun hs => (by have := hi.1; have := hs.2; omega), fun hs => (by have := hi.1; have := hs.2; omega)⟩, fun i hi => hi.2⟩
        have HTW := hide' hTw
        have HH := hide' h
        have HO := hide' ho
        have HG := hide' hG
        have HOS := hide' hos
        have HNS := hide' hns
        have HMT := hide' (And.intro hmT hT)
        clear qt hf7 ho7 hn7 hb7 hTw0 hTw h ho hG hos hns hmT hT HBO5 HF5 HZ5 HB5 HZ4 HB4 hb1 hb2 hb3 hB1 hB2 hB3 z0 z2 z3 z4 u0 u1 u2 hb0 hgd hsz hLT hll hms1 hwt hlr hR
        generalize hSf : (fun i => w3.heap.size ≤ i ∧ i < w4.heap.size) = Sf0 at HBO7 HTW
        generalize hSr : (fun i => w4.heap.size ≤ i ∧ i < w6.heap.size) = Sr0 at HBO7 HTW
        generalize hSt : (fun i => w6.heap.size ≤ i ∧ i < w7.heap.size) = St at HTW
        clear hSf hSr hSt
        have hlow : w.heap.size + 1 ≤ w7.heap.size := by omega
        clear hs1 hs2 hs3 hs4 hs5 hs7
        dsimp only
        go_wp2_with fail
        go_loopw [12] (fun i wr => ∃ (k : Nat) (Sf Sr : Nat → Prop) (vr : Value) (ms : List Nv) (ck : Int), k ≤ os.length ∧ i = .int .i64 k ∧ Hid (BothAt wr (w.heap.size + 1) Sf Sr A R vr ms ck rm) ∧ ck ≤ clk + k ∧ Hid (TwinAt wr St Sf Sr G T clk rm) ∧ Hid (Below w.heap.size w wr) ∧ w.heap.size + 1 ≤ wr.heap.size ∧ Hid (wr.heap[w.heap.size]? = some (.cells #[.slice va ns.length vc, .int .i64 clk, .int .i64 rm] 24 (0, 0)))) (fun i _ => os.length - (intOf i).toNat)
        case atStart => exact ⟨0, Sf0, Sr0, vr, ms, clk, Nat.zero_le _, rfl, HBO7, by omega, HTW, HB7, hlow, HZ7⟩
        case round =>
          clear HBO7 HTW HB7 HZ7 hlow
          obtain ⟨k, Sf, Sr, vr, ms, ck, hk, rfl, HBO, hck, HTw, HBr, hlr, HZr⟩ := hrel
          by_cases hkl : k < os.length
          · have k1 : (k : Int) < os.length := by omega
            obtain ⟨o, hoo⟩ : ∃ o, os[k]? = some o := ⟨_, List.getElem?_eq_getElem hkl⟩
            have hmem := List.mem_of_getElem? hoo
            obtain ⟨l1, l2, l3⟩ := HOS.out o hmem
            have hrow := HO.out
            rcases hrow with ⟨_, e⟩ | ⟨g, of, cap, e, hcap, hrow, hrds⟩
            · rw [e] at hkl; simp at hkl
            cases e
            have hrd0 := hrds o hmem
            obtain ⟨ba, bc, hbv⟩ := hrd0.len
            have hcell : ∀ W, Below w.heap.size w W → W.cell? ⟨g, of + k * 4, none⟩ = some (.int .i64 o.kind) ∧ W.cell? ⟨g, of + k * 4 + 1, none⟩ = some (.string o.p) ∧ W.cell? ⟨g, of + k * 4 + 2, none⟩ = some (.string o.q) ∧ W.cell? ⟨g, of + k * 4 + 3, none⟩ = some (.slice ba o.b.length bc) := fun W hb => by
              have hr := hrow.below hb
              exact ⟨hr.c0 k o hoo, hr.c1 k o hoo, hr.c2 k o hoo, by rw [← hbv]; exact hr.c3 k o hoo⟩
            have hbo : ∀ g, o.bv.ownBlock = some g → o.b ≠ [] → g < w.heap.size := fun g hg hne => rds_lt hrd0 hne g hg
            obtain ⟨d0, d1, d2, d3⟩ := hcell wr HBr.out
            have qc := change_any B (w.heap.size + 1) A R E Sf Sr vr ms ck rm o.kind o.p o.q o.bv o.b wr HBO.out (HG.out.keep (HBr.out.mono hB)) (by omega) (by omega) (by omega) l1 l2 (hrd0.below HBr.out) l3 (fun g hg hne => by have := hbo g hg hne; omega)
            rw [hbv] at qc
            have HC := hide' hcell
            clear hrow hrds hrd0 hbo hcell hoo hmem hbv
            obtain ⟨kd, P, Q, bv, bs⟩ := o
            simp only at *
            generalize bs.length = bl at *
            go_wp2_with fail
            refine qc.mono ?_
            rintro r w8 ⟨rfl, hch⟩
            obtain ⟨Sf', Sr', vr', ms', ck', hBo, hT, hF', hR', hck'⟩ := hch
            have hB8 := both_below HBO.out HBr.out (by omega) (by omega) hT
            obtain ⟨f0, f1, f2, f3⟩ := HC.out w8 hB8
            have ql := looks_any B (w.heap.size + 1) A R E Sf' Sr' vr' ms' ck' rm kd P Q ba bl bc w8 hBo (HG.out.keep (hB8.mono hB)) (Nat.le_trans hB hB8.size) l1 l2
            have HBO8 := hide' hBo
            have HTW8 := hide' (HTw.out.step hT hF' hR')
            have HB8 := hide' hB8
            have HZ8 : Hid (w8.heap[w.heap.size]? = some (.cells #[.slice va ns.length vc, .int .i64 clk, .int .i64 rm] 24 (0, 0))) := hide' ((hT.block w.heap.size (by omega) (fun hs => by
              rcases hs with hs | hs
              · have := (HBO.out.hf _ hs).1; omega
              · have := (HBO.out.hr _ hs).1; omega)).trans HZr.out)
            have hs8 := hT.size
            clear qc hBo hT hF' hR' hB8 d0 d1 d2 d3
            dsimp only
            go_wp2_with fail
            refine ql.mono ?_
            rintro r w9 ⟨rfl, hb9⟩
            have HB9 := hide' hb9
            have hs9 := hb9.size
            clear ql hb9 f0 f1 f2 f3
            dsimp only
            go_wp2_with fail
            exact ⟨⟨k + 1, Sf', Sr', vr', ms', ck', by omega, by simp, hide' (HBO8.out.below HB9.out), by omega, hide' (HTW8.out.below HB9.out), hide' (HB8.out.trans (HB9.out.mono HB8.out.size)), by omega, hide' ((HB9.out.block _ (by omega)).trans HZ8.out)⟩, by simp [intOf]; omega⟩
          · obtain rfl : k = os.length := by omega
            have k1 : ¬ (os.length : Int) < os.length := by omega
            have q1 := Tree_any A _ ck rm Sf wr HBO.out.fs
            go_wp2_with fail
            refine q1.mono ?_
            rintro r w8 ⟨⟨v8, n8, rfl, hn8, hT8⟩, hb8⟩
            have q2 := rtree_any Sr R vr ms ck rm w8 (HBO.out.rf.below hb8).at_ HBO.out.rf.len HBO.out.rf.data
            obtain ⟨a8, c8, hv8⟩ := hn8.nodes.len
            generalize hl8 : n8.length = l8 at hv8
            subst hv8
            have HN8 := hide' (And.intro hn8.nodes hT8)
            have HB8 := hide' hb8
            clear q1 hn8 hT8 hb8
            dsimp only
            go_wp2_with fail
            refine q2.mono ?_
            rintro r w9 ⟨⟨v9, n9, rfl, hn9, hT9⟩, hb9⟩
            have hml9 : n9.length ≤ 1000000 := by
              have := congrArg List.length hT9
              rw [List.length_map, List.length_map] at this
              have := HBO.out.rf.len
              omega
            have q3 := Same_any _ v9 n8 n9 ck rm ck rm w9 (HN8.out.1.below hb9) hn9 hml9
            obtain ⟨a9, c9, hv9⟩ := hn9.len
            generalize hl9 : n9.length = l9 at hv9
            subst hv9
            have HS9 := hide' (HN8.out.2.trans hT9.symm)
            have HB9 := hide' (HB8.out.trans (hb9.mono HB8.out.size))
            clear q2 hn9 hT9 hb9 hml9 HB8 HN8
            dsimp only
            go_wp2_with fail
            refine q3.mono ?_
            rintro r w10 ⟨⟨b10, rfl, hb10⟩, hbb⟩
            obtain rfl : b10 = true := hb10.2 ⟨trivial, trivial, HS9.out⟩
            have HB10 := hide' (HB9.out.trans (hbb.mono HB9.out.size))
            clear q3 hb10 hbb
            obtain ⟨W4, hW4⟩ : ∃ W4, W4 = w10.drew := ⟨_, rfl⟩
            have hb4 : Below w10.heap.size w10 W4 := by rw [hW4]; exact ⟨rfl, rfl, rfl, Nat.le_refl _, fun _ _ => rfl⟩
            have hB4r : Below wr.heap.size wr W4 := HB10.out.trans (hb4.mono HB10.out.size)
            have hB4 : Below w.heap.size w W4 := HBr.out.trans (hB4r.mono HBr.out.size)
            have zB : ∀ W, Below wr.heap.size wr W → BxC w.heap.size (.slice va ns.length vc) clk rm W := fun W hb => by
              have z := (hb.block w.heap.size (by omega)).trans HZr.out
              exact ⟨by rw [Lib.cell_of_heap z]; rfl, by rw [Lib.cell_of_heap z]; rfl, by rw [Lib.cell_of_heap z]; rfl⟩
            have HZB := hide' zB
            have HBC := hide' (zB W4 hB4r)
            have q4 := Tree_any G T clk rm St W4 (HTw.out.below hB4r).fs
            have HB4 := hide' hB4
            have HB4r := hide' hB4r
            clear hb4 hB4 hB4r zB HB10
            dsimp only
            go_upto_region 22 with fail
            refine wp_region_classX [] (C := BxC w.heap.size (.slice va ns.length vc) clk rm) (by kernel_rfl) ?_
            rw [← hW4]
            clear hW4
            (refine wpAnyX_take (i := 0) (v := ?_) HBC.out rfl (by kernel_rfl) (by kernel_rfl) (by kernel_rfl) (by kernel_rfl) (fun _ _ _ h => h) (Or.inl ⟨by kernel_rfl, ?_⟩) ?_; rotate_left; (intro w hc; have k0 := hc.c0; have k1 := hc.c1; have k2 := hc.c2; clear hc; go_simp; try with_reducible rfl))
            (refine wpAnyX_take (i := 1) (v := ?_) HBC.out rfl (by kernel_rfl) (by kernel_rfl) (by kernel_rfl) (by kernel_rfl) (fun _ _ _ h => h) (Or.inl ⟨by kernel_rfl, ?_⟩) ?_; rotate_left; (intro w hc; have k0 := hc.c0; have k1 := hc.c1; have k2 := hc.c2; clear hc; go_simp; try with_reducible rfl))
            (refine wpAnyX_take (i := 2) (v := ?_) HBC.out rfl (by kernel_rfl) (by kernel_rfl) (by kernel_rfl) (by kernel_rfl) (fun _ _ _ h => h) (Or.inl ⟨by kernel_rfl, ?_⟩) ?_; rotate_left; (intro w hc; have k0 := hc.c0; have k1 := hc.c1; have k2 := hc.c2; clear hc; go_simp; try with_reducible rfl))
            (refine wpAnyX_take (i := 4) (v := ?_) HBC.out rfl (by kernel_rfl) (by kernel_rfl) (by kernel_rfl) (by kernel_rfl) (fun _ _ _ h => h) (Or.inl ⟨by kernel_rfl, ?_⟩) ?_; rotate_left; (intro w hc; have k0 := hc.c0; have k1 := hc.c1; have k2 := hc.c2; clear hc; go_simp; try with_reducible rfl))
            go_simp
            refine wpAnyX_one (i := 3) (by kernel_rfl) (wpOp_wanted rfl (by rfl) ?_)
            go_simp
            refine q4.mono ?_
            rintro r w11 ⟨⟨v11, n11, rfl, hn11, hT11⟩, hb11⟩
            have hB11r := HB4r.out.trans (hb11.mono HB4r.out.size)
            have hB11 := HB4.out.trans (hb11.mono HB4.out.size)
            have hC11 := HZB.out w11 hB11r
            have q5 := Same_any v11 _ n11 ns clk rm clk rm w11 hn11.nodes (HH.out.below hB11) (by omega)
            obtain ⟨a11, c11, hv11⟩ := hn11.nodes.len
            generalize hl11 : n11.length = l11 at hv11
            subst hv11
            have HS11 := hide' (hT11.trans HMT.out.2)
            have HB11 := hide' (And.intro hB11r hB11)
            clear q4 hn11 hT11 hb11 hB11r hB11
            dsimp only
            refine ⟨hC11, ?_⟩
            refine wpAnyX_one (i := 5) (by kernel_rfl) (wpOp_wanted rfl (by rfl) ?_)
            clear hC11
            go_simp
            refine q5.mono ?_
            rintro r w12 ⟨⟨b12, rfl, hb12⟩, hbb⟩
            obtain rfl : b12 = true := hb12.2 ⟨rfl, rfl, HS11.out⟩
            have hC12 := HZB.out w12 (HB11.out.1.trans (hbb.mono HB11.out.1.size))
            have HB12 := hide' (HB11.out.2.trans (hbb.mono HB11.out.2.size))
            clear q5 hb12 hbb
            dsimp only
            refine ⟨hC12, ?_⟩
            refine wpAnyX_one (i := 6) (by kernel_rfl) (wpOp_wanted rfl (by rfl) ?_)
            go_simp
            refine wpAnyX_one (i := 7) (by kernel_rfl) (wpOp_wanted rfl (by rfl) ?_)
            go_simp
            refine wpAnyX_done (by kernel_rfl) ?_ _
            clear hC12
            go_wp2_with fail
            refine bodyPost_ret (v := .bool true) (by simp [results, Tryz.results4, go_sem]) rfl ?_
            exact ⟨rfl, HB12.out⟩
end Go.Proofs.YtpbfhbnkalambaaGreatDoor
