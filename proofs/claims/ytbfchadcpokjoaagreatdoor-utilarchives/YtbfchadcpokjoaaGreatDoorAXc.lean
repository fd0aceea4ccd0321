/- errors.Is at the errors that package util makes. putFiles. -/
import Derived.Test.YtbfchadcpokjoaaGreatDoorAZu
import Derived.LaidEql
import Derived.Lib.IfaceEq
import Derived.Stop.Asserts
import Derived.RowKitTokens
import Derived.Test.YtbfchadcpokjoaaGreatDoorAXa
import Derived.Deep.CutRange
namespace Go.Proofs.YtbfchadcpokjoaaGreatDoor
open Go.RowKit Go.Extern.Stop Go.Stop Go.Extern
set_option maxRecDepth 100000

theorem ue_isTypeOf (v : Value) (w : World) : (Extern.ReflectliteType.typeOf #[.iface 37 v]).run Tryz.prog w = .ok (.iface 152 (.agg #[.pointer (some ⟨11, 37, none⟩)])) w := by kernel_rfl
theorem ue_call134 (w : World) : (callFunc 286 #[.agg #[.pointer (some ⟨11, 37, none⟩)]]).run Tryz.prog w = .ok (.value (.bool true)) w := by kernel_rfl
theorem ue_isMethodComparable (v : Value) (w : World) : (Go.method 421 152 v "Comparable").run Tryz.prog w = .ok (286, v) w := by kernel_rfl
theorem ue_noIsN (v : Value) (xT : TypeId) (w : World) : (Instr.typeAssert (.iface 37 v) xT 154 true).run Tryz.prog w = .ok (.tuple #[.nilIface, .bool false]) w := run_typeAssert_lacksB Tryz.underlying154 (by kernel_rfl) (by kernel_rfl) v xT w
theorem ue_noUnwrapN (v : Value) (xT : TypeId) (w : World) : (Instr.typeAssert (.iface 37 v) xT 157 true).run Tryz.prog w = .ok (.tuple #[.nilIface, .bool false]) w := run_typeAssert_lacksB Tryz.underlying157 (by kernel_rfl) (by kernel_rfl) v xT w
theorem ue_noUnwrapsN (v : Value) (xT : TypeId) (w : World) : (Instr.typeAssert (.iface 37 v) xT 159 true).run Tryz.prog w = .ok (.tuple #[.nilIface, .bool false]) w := run_typeAssert_lacksB Tryz.underlying159 (by kernel_rfl) (by kernel_rfl) v xT w
theorem ue_noIsF (v : Value) (xT : TypeId) (w : World) : (Instr.typeAssert (.iface 174 v) xT 154 true).run Tryz.prog w = .ok (.tuple #[.nilIface, .bool false]) w := run_typeAssert_lacksB Tryz.underlying154 (by kernel_rfl) (by kernel_rfl) v xT w
theorem ue_hasUnwrapF (v : Value) (xT : TypeId) (w : World) : (Instr.typeAssert (.iface 174 v) xT 157 true).run Tryz.prog w = .ok (.tuple #[.iface 174 v, .bool true]) w := run_typeAssert_hasB Tryz.underlying157 (by kernel_rfl) v xT w
theorem ue_methodUnwrap (v : Value) (w : World) : (Go.method 421 174 v "Unwrap").run Tryz.prog w = .ok (296, v) w := by kernel_rfl
theorem ue_isComp : (Tryz.prog.info? 37).map (·.comparable) = some true := by kernel_rfl
theorem ue_nil (n : Int) (w : World) : Calls Tryz.prog 36 #[.nilIface, .iface 37 (.int .i64 n)] w fun e w' => e = .returned (.bool false) ∧ w' = w := by
  have hn := run_eql_iface_nil_left (P := Tryz.prog) w 37 (.int .i64 n) Tryz.underlying55
  go_enter Tryz.func36, Tryz.ntmps36
  go_wp2
  go_ret
  exact ⟨rfl, rfl⟩
set_option maxHeartbeats 1000000 in
theorem ue_flt (pb : Nat) (k n : Int) (w : World) (h1 : w.cell? ⟨pb, 1, none⟩ = some (.iface 37 (.int .i64 k))) :
    Calls Tryz.prog 36 #[.iface 174 (.pointer (some ⟨pb, 0, none⟩)), .iface 37 (.int .i64 n)] w fun e w' => e = .returned (.bool (k == n)) ∧ w' = w := by
  have h50 := @run_callFunc_extern Tryz.prog 65 _ Extern.ReflectliteType.typeOf Tryz.func65 (by kernel_rfl) (by kernel_rfl) (by kernel_rfl) (by kernel_rfl)
  have h134 := ue_call134
  have tT := ue_isTypeOf
  have mR := ue_isMethodComparable
  have nW := ue_noIsF
  have uW := ue_hasUnwrapF
  have mU := ue_methodUnwrap
  have nN := ue_noIsN
  have uN := ue_noUnwrapN
  have vN := ue_noUnwrapsN
  have hty := run_eql_iface_types (P := Tryz.prog) 174 37 (.pointer (some ⟨pb, 0, none⟩)) (.int .i64 n) Tryz.underlying55 (by decide) w
  have heq := Lib.run_eql_iface_int (P := Tryz.prog) (t := 55) (tx := 37) (k := .i64) w k n Tryz.underlying55 ue_isComp Tryz.underlying37
  cases hkn : (k == n) with
  | true =>
    rw [hkn] at heq
    go_enter Tryz.func36, Tryz.ntmps36
    go_wp2
    refine wp_loop_rounds 2 ?_
    rw [rounds_succ]
    go_wp2
    rw [rounds_succ]
    go_wp2
    go_ret
    exact ⟨rfl, rfl⟩
  | false =>
    rw [hkn] at heq
    go_enter Tryz.func36, Tryz.ntmps36
    go_wp2
    refine wp_loop_rounds 2 ?_
    rw [rounds_succ]
    go_wp2
    rw [rounds_succ]
    go_wp2
    go_ret
    exact ⟨rfl, rfl⟩
end Go.Proofs.YtbfchadcpokjoaaGreatDoor
namespace Go.Proofs.YtbfchadcpokjoaaGreatDoor
open Go.RowKit Go.Maps

structure PutC (C A : Nat) (w : World) : Prop where
  c : w.cell? ⟨C, 0, none⟩ = some (.pointer (some ⟨A, 0, none⟩))
/-- the members behind the files fs -/
def putA (x : Bs → Ee) (es : List Ee) (fs : List Bs) : List Ee := fs.foldl (fun es p => putE es (x p)) es
theorem putA_next (x : Bs → Ee) (es : List Ee) (fs : List Bs) (k : Nat) (p : Bs) (h : fs[k]? = some p) : putA x es (fs.take (k + 1)) = putE (putA x es (fs.take k)) (x p) := by
  unfold putA
  rw [List.take_add_one, h, Option.toList_some, List.foldl_append]
  rfl
/-- what putFiles finds in the archive: some members, or that there is none -/
def MsV (w : World) (es : List Ee) (r : Ending) (w' : World) : Prop := Below w.heap.size w w' ∧ ∃ v' ms' ev, r = .returned (.tuple #[v', ev]) ∧ Arc.MsAt w' w.heap.size v' ms' ∧ ms'.map mE = es ∧ (ev = .nilIface ∨ ∃ g, ev = .iface 174 (.pointer (some ⟨g, 0, none⟩)) ∧ w'.cell? ⟨g, 1, none⟩ = some (.iface 37 (.int .i64 10)))
theorem MbV.ms {w : World} {es : List Ee} {r : Ending} {w' : World} (h : MbV w es r w') : MsV w es r w' := by
  obtain ⟨hb, v', ms', rfl, hm, he⟩ := h
  exact ⟨hb, v', ms', _, rfl, hm, he, .inl rfl⟩
theorem MnV.ms {w : World} {r : Ending} {w' : World} (h : MnV w r w') : MsV w [] r w' := by
  obtain ⟨hb, g, rfl, hg⟩ := h
  exact ⟨hb, _, [], _, rfl, Arc.MsAt.nil _ _, rfl, .inr ⟨g, rfl, hg⟩⟩
/-- a file that is put -/
structure FOk (T : Tr) (x : Bs → Ee) (p : Bs) : Prop where
  one : ∃ c, p = [c] ∧ c ≠ 47
  rd : readR T (clean p) = .inr (x p).2.2
  tm : (statR T (clean p)).2.1 = (x p).2.1
  nm : (x p).1 = p
  dl : (x p).2.2.length ≤ 100000
set_option maxRecDepth 100000 in
set_option maxHeartbeats 4000000 in
theorem putFiles_ok (B A C : Nat) (E : Addr) (T T' : Tr) (clk clk' rm : Int) (p : Bs) (fs : List Bs) (x : Bs → Ee) (S : Nat → Prop) (y iv ov fv : Value) (w : World) (es : List Ee) (hC : CallAt w C (.pointer (some ⟨A, 0, none⟩)) y iv ov) (h : IsFs w S A T clk rm) (hG : Glo B w E) (hB : B ≤ w.heap.size) (hS : ∀ i, S i → B ≤ i) (hk1 : clk ≤ 1099511627776000) (hpl : p.length ≤ 1000) (hD : ∀ e ∈ T, e.2.data.length ≤ 1000000) (hE : AEnv w)
    (hm : Calls Tryz.prog 127 #[.pointer (some ⟨C, 0, none⟩), .string (mk p)] w (MsV w es)) (hfs : ∀ f ∈ fs, FOk T x f) (hfl : fs.length ≤ 1000) (hv : Txs w fv fs) (hw : ∀ k, k ≤ fs.length → Wl (putA x es (fs.take k))) (hwr : writeR T clk rm (clean p) (arcE (putA x es fs)) false = (0, T', clk')) :
    Calls Tryz.prog 99 #[.pointer (some ⟨C, 0, none⟩), .string (mk p), fv] w fun r w' => r = .returned .nilIface ∧ FsOk S A rm T' clk' w w' := by
  have hCl := lt_of_block hC
  have hrow : fs ≠ [] → ∃ g o c, fv = .slice (some ⟨g, o, none⟩) fs.length c ∧ ∀ W, Below w.heap.size w W → ∀ k f, fs[k]? = some f → W.cell? ⟨g, o + k, none⟩ = some (.string (mk f)) := fun hne => by
    rcases hv with ⟨_, _, _, e⟩ | ⟨g, o, c, e1, h2, h3, h4⟩
    · exact absurd e hne
    · exact ⟨g, o, c, e1, fun W hb k f hk => (hb.cell (p := ⟨g, o + k, none⟩) h3).trans (h4 k f hk)⟩
  obtain ⟨fa, fc, hfv⟩ : ∃ a c, fv = .slice a fs.length c := by
    rcases hv with ⟨a, c, e, rfl⟩ | ⟨g, o, c, e1, _⟩
    · exact ⟨a, c, e⟩
    · exact ⟨_, c, e1⟩
  subst hfv
  have qr := fun (W : World) (hb : Below w.heap.size w W) (f : Bs) (hf : FOk T x f) => (show Calls Tryz.prog 84 #[.pointer (some ⟨C, 0, none⟩), .string (mk f)] W (UrdV W (mk f) (.inr (x f).2.2)) from by
    have q := uread_any B A C E T clk rm (mk f) S y iv ov W ((hb.block C hCl).trans hC) (h.below hb) (hG.keep (hb.mono hB)) (Nat.le_trans hB hb.size) (by rw [mk_size]; obtain ⟨c, rfl, _⟩ := hf.one; simp) hD
    rw [tl_mk, hf.rd] at q
    exact q (fun m e => by cases e))
  have qs := fun (W : World) (hb : Below w.heap.size w W) (f : Bs) (hf : FOk T x f) => (show Calls Tryz.prog 14 #[.pointer (some ⟨A, 0, none⟩), .string (mk f)] W (fun r w' => (∃ k z, r = .returned (.agg #[.int .i64 k, .int .i64 (x f).2.1, .int .i64 z])) ∧ Below W.heap.size W w') from by
    have q := Stat_any B A E T clk rm (mk f) S W (h.below hb) (hG.keep (hb.mono hB)) (Nat.le_trans hB hb.size) (by rw [mk_size]; obtain ⟨c, rfl, _⟩ := hf.one; simp)
    rw [tl_mk] at q
    refine q.mono ?_
    rintro r w' ⟨rfl, hb⟩
    refine ⟨⟨(statR T (clean f)).1, (statR T (clean f)).2.2, ?_⟩, hb⟩
    rw [← hf.tm]
    rfl)
  have qw := fun (W : World) (hb : Below w.heap.size w W) (v : Value) (ms : List Arc.Mv) (hM : Arc.Mems W v ms) (he : ms.map mE = putA x es fs) => wmembers_ok B A C E T T' clk clk' rm p S y iv ov v ms W (putA x es fs) ((hb.block C hCl).trans hC) (h.below hb) (hG.keep (hb.mono hB)) (Nat.le_trans hB hb.size) hS hk1 hpl (hE.keep hb hE.lt) hM he (by have := hw fs.length (Nat.le_refl _); rwa [List.take_length] at this) hwr
  have hpc : ∀ W, Below w.heap.size w W → PutC C A W := fun W hb => ⟨(hb.cell (p := ⟨C, 0, none⟩) hCl).trans (by rw [Lib.cell_of_heap hC]; rfl)⟩
  have HM := hide' hm
  have HQR := hide' qr
  have HQS := hide' qs
  have HQW := hide' qw
  have HPC0 := hide' hpc
  have HROW := hide' hrow
  have HWL := hide' hw
  have HFS := hide' hfs
  clear hm qr qs qw hpc hrow hw hfs hC h hG hS hD hE hv hwr
  generalize hfn : fs.length = fn at *
  have HFN := hide' hfn
  clear hfn
  go_enter Tryz.func99, Tryz.ntmps99
  go_wp2_with fail
  refine HM.out.mono ?_
  rintro r w1 ⟨hb1, v1, ms1, ev, rfl, hm1, he1, hev⟩
  obtain ⟨la, lc, hlv⟩ := hm1.mems.len
  subst hlv
  have HM1 := hide' hm1
  have HE1 := hide' he1
  have HB1 := hide' hb1
  clear hm1 he1 hb1 HM
  go_upto_region 2 with fail
  go_cut [26] from 19 to 26 (fun b wx => b = .bool false ∧ wx = w1)
  case first =>
    rcases hev with rfl | ⟨g, rfl, hg⟩
    · have hn := neq_nil57
      go_wp2_with fail
      go_meet
      exact ⟨rfl, rfl⟩
    · have hn := neq_flt
      have q := ue_flt g 10 10 w1 hg
      go_wp2_with fail
      refine q.mono ?_
      rintro r w2 ⟨rfl, rfl⟩
      go_wp2_with fail
      go_meet
      exact ⟨rfl, rfl⟩
  case rest =>
    obtain ⟨rfl, rfl⟩ := hcut
    go_wp2_with fail
    go_loopw [7, 10, 11, 12, 30] (fun l _ _ _ i wr => ∃ (k : Nat) (ms : List Arc.Mv), k ≤ fn ∧ i = .int .i64 k ∧ Arc.MsAt wr w.heap.size l ms ∧ ms.map mE = putA x es (fs.take k) ∧ Below w.heap.size w wr) (fun _ _ _ _ i _ => fn - (intOf i).toNat)
    case atStart => exact ⟨0, ms1, Nat.zero_le _, rfl, HM1.out, HE1.out, HB1.out⟩
    case round =>
      obtain ⟨k, ms, hk, rfl, hms, hme, hBr⟩ := hrel
      by_cases hkl : k < fn
      · have k1 : (k : Int) < fn := by omega
        obtain ⟨f, hf⟩ : ∃ f, fs[k]? = some f := ⟨_, List.getElem?_eq_getElem (by rw [HFN.out]; exact hkl)⟩
        have hfo := HFS.out f (List.mem_of_getElem? hf)
        obtain ⟨g, o, c, hse, hcl⟩ := HROW.out (fun e => by rw [e] at hf; simp at hf)
        cases hse
        have d0 := hcl wr hBr k f hf
        obtain ⟨qa, qc, hql⟩ := hms.mems.len
        subst hql
        have q1 := HQR.out wr hBr f hfo
        have HQ1 := hide' q1
        have HST := hide' (And.intro hms (And.intro hme hBr))
        have hfe := putA_next x es fs k f hf
        have HFE := hide' hfe
        clear q1 hms hme hcl hf hfe
        obtain ⟨ch, rfl, hch⟩ := hfo.one
        have HFO := hide' hfo
        clear hfo
        go_wp2_with fail
        refine HQ1.out.mono ?_
        rintro r w2 ⟨hb2, bv, rfl, hd2, ho2⟩
        obtain ⟨ba, bc, rfl⟩ := hd2.len
        have hB2 := hBr.trans (hb2.mono hBr.size)
        have hn := neq_nil57
        have HS0 : Hid (w.heap.size ≤ w2.heap.size) := hide' hB2.size
        have HB2 := hide' hB2
        have HPC : Hid (∀ W, Below w2.heap.size w2 W → PutC C A W) := hide' fun W hb => HPC0.out W (hB2.trans (hb.mono hB2.size))
        have HQSW : Hid (∀ W, Below w2.heap.size w2 W → Calls Tryz.prog 14 #[.pointer (some ⟨A, 0, none⟩), .string (mk [ch])] W (fun r w' => (∃ k z, r = .returned (.agg #[.int .i64 k, .int .i64 (x [ch]).2.1, .int .i64 z])) ∧ Below W.heap.size W w')) := hide' fun W hb => HQS.out W (hB2.trans (hb.mono hB2.size)) [ch] HFO.out
        have hm2 := HST.out.1.below hb2
        have HXR : Hid (∀ W, Below w2.heap.size w2 W → Calls Tryz.prog 128 #[.slice qa ms.length qc, .agg #[.string (mk [ch]), .int .i64 (x [ch]).2.1, .slice ba (x [ch]).2.2.length bc]] W fun r w' => (∃ v' ms', r = .returned v' ∧ Arc.MsAt w' W.heap.size v' ms' ∧ ms'.map mE = putE (putA x es (fs.take k)) (x [ch])) ∧ Below W.heap.size W w') := hide' fun W hb => by
          have hWl := HWL.out k (by omega)
          have hen := HST.out.2.1
          have hlen : ms.length = (putA x es (fs.take k)).length := by rw [← hen, List.length_map]
          refine (aput _ ms ⟨[ch], (x [ch]).2.1, .slice ba (x [ch]).2.2.length bc, (x [ch]).2.2⟩ W (hm2.below hb).mems ((Dat.rds hd2).below hb) (by have := hWl.n; omega) (fun n hn => ?_) (by simp) (by have := HFO.out.dl; show (x [ch]).2.2.length ≤ 300000; omega)).mono ?_
          · have := hWl.nm (mE n) (by rw [← hen]; exact List.mem_map.2 ⟨n, hn, rfl⟩)
            exact ⟨Nat.le_trans this.1 (by decide), Nat.le_trans this.2 (by decide)⟩
          · rintro r w' ⟨⟨v', ms', rfl, h1, h2⟩, hb'⟩
            refine ⟨⟨v', ms', rfl, h1, ?_⟩, hb'⟩
            rw [h2, putM_map, hen]
            congr 1
            exact Prod.ext HFO.out.nm.symm rfl
        clear hb2 hd2 ho2 hBr hB2 hm2
        generalize ms.length = mn at *
        generalize (x [ch]).2.1 = xt at *
        generalize (x [ch]).2.2.length = xl at *
        have hfd : ∀ (a b c : Int) (W : World), (Instr.field 44 (.agg #[.int .i64 a, .int .i64 b, .int .i64 c]) 1).run Tryz.prog W = .ok (.int .i64 b) W := fun _ _ _ _ => by kernel_rfl
        go_upto_region 10 with fail
        refine wp_region_classX [] (C := PutC C A) (by kernel_rfl) ?_
        have hb0 : Below w2.heap.size w2 w2.drew := below_drewn (B := w2.heap.size) (w := w2) 1
        have HB0 := hide' hb0
        clear hb0
        (refine wpAnyX_take (i := 0) (v := ?_) (HPC.out _ HB0.out) rfl (by kernel_rfl) (by kernel_rfl) (by kernel_rfl) (by kernel_rfl) (fun _ _ _ h => h) (Or.inl ⟨by kernel_rfl, ?_⟩) ?_; rotate_left; (intro w hc; have k0 := hc.c; clear hc; go_simp; try with_reducible rfl))
        go_simp
        (refine wpAnyX_take (i := 1) (v := ?_) (HPC.out _ HB0.out) rfl (by kernel_rfl) (by kernel_rfl) (by kernel_rfl) (by kernel_rfl) (fun _ _ _ h => h) (Or.inl ⟨by kernel_rfl, ?_⟩) ?_; rotate_left; (intro w hc; have k0 := hc.c; clear hc; go_simp; try with_reducible rfl))
        go_simp
        (refine wpAnyX_take (i := 3) (v := ?_) (HPC.out _ HB0.out) rfl (by kernel_rfl) (by kernel_rfl) (by kernel_rfl) (by kernel_rfl) (fun _ _ _ h => h) (Or.inl ⟨by kernel_rfl, ?_⟩) ?_; rotate_left; (intro w hc; have k0 := hc.c; clear hc; go_simp; try with_reducible rfl))
        go_simp
        (refine wpAnyX_take (i := 4) (v := ?_) (HPC.out _ HB0.out) rfl (by kernel_rfl) (by kernel_rfl) (by kernel_rfl) (by kernel_rfl) (fun _ _ _ h => h) (Or.inl ⟨by kernel_rfl, ?_⟩) ?_; rotate_left; (intro w hc; have k0 := hc.c; clear hc; go_simp; try with_reducible rfl))
        go_simp
        (refine wpAnyX_take (i := 5) (v := ?_) (HPC.out _ HB0.out) rfl (by kernel_rfl) (by kernel_rfl) (by kernel_rfl) (by kernel_rfl) (fun _ _ _ h => h) (Or.inl ⟨by kernel_rfl, ?_⟩) ?_; rotate_left; (intro w hc; have k0 := hc.c; clear hc; go_simp; try with_reducible rfl))
        go_simp
        (refine wpAnyX_take (i := 6) (v := ?_) (HPC.out _ HB0.out) rfl (by kernel_rfl) (by kernel_rfl) (by kernel_rfl) (by kernel_rfl) (fun _ _ _ h => h) (Or.inl ⟨by kernel_rfl, ?_⟩) ?_; rotate_left; (intro w hc; have k0 := hc.c; clear hc; go_simp; try with_reducible rfl))
        go_simp
        (refine wpAnyX_take (i := 7) (v := ?_) (HPC.out _ HB0.out) rfl (by kernel_rfl) (by kernel_rfl) (by kernel_rfl) (by kernel_rfl) (fun _ _ _ h => h) (Or.inl ⟨by kernel_rfl, ?_⟩) ?_; rotate_left; (intro w hc; have k0 := hc.c; clear hc; go_simp; try with_reducible rfl))
        go_simp
        (refine wpAnyX_take (i := 10) (v := ?_) (HPC.out _ HB0.out) rfl (by kernel_rfl) (by kernel_rfl) (by kernel_rfl) (by kernel_rfl) (fun _ _ _ h => h) (Or.inl ⟨by kernel_rfl, ?_⟩) ?_; rotate_left; (intro w hc; have k0 := hc.c; clear hc; go_simp; try with_reducible rfl))
        go_simp
        refine wpAnyX_one (i := 2) (by kernel_rfl) (wpOp_wanted rfl (by rfl) ?_)
        go_simp
        refine (notDir_one ch hch _).mono ?_
        rintro r w3 ⟨rfl, hb3⟩
        have HB3 := hide' (HB0.out.trans (hb3.mono HB0.out.size))
        clear hb3
        refine ⟨HPC.out w3 HB3.out, ?_⟩
        refine wpAnyX_one (i := 8) (by kernel_rfl) (wpOp_wanted rfl (by rfl) ?_)
        go_simp
        refine (HQSW.out w3 HB3.out).mono ?_
        rintro r w4 ⟨⟨s1, s2, rfl⟩, hb4⟩
        have HB4 := hide' (HB3.out.trans (hb4.mono HB3.out.size))
        clear hb4
        refine ⟨HPC.out w4 HB4.out, ?_⟩
        (refine wpAnyX_take (i := 9) (v := ?_) (HPC.out w4 HB4.out) rfl (by kernel_rfl) (by kernel_rfl) (by kernel_rfl) (by kernel_rfl) (fun _ _ _ h => h) (Or.inl ⟨by kernel_rfl, ?_⟩) ?_; rotate_left; (intro w hc; have k0 := hc.c; clear hc; go_simp; try with_reducible rfl))
        go_simp
        (refine wpAnyX_take (i := 11) (v := ?_) (HPC.out w4 HB4.out) rfl (by kernel_rfl) (by kernel_rfl) (by kernel_rfl) (by kernel_rfl) (fun _ _ _ h => h) (Or.inl ⟨by kernel_rfl, ?_⟩) ?_; rotate_left; (intro w hc; have k0 := hc.c; clear hc; go_simp; try with_reducible rfl))
        go_simp
        refine wpAnyX_one (i := 12) (by kernel_rfl) (wpOp_wanted rfl (by rfl) ?_)
        go_simp
        refine (HXR.out w4 HB4.out).mono ?_
        rintro r w7 ⟨⟨v7, ms7, rfl, hm7, he7⟩, hb7⟩
        have hB7 := (HB4.out).trans (hb7.mono (HB4.out).size)
        refine ⟨HPC.out w7 hB7, ?_⟩
        refine wpAnyX_one (i := 13) (by kernel_rfl) (wpOp_wanted rfl (by rfl) ?_)
        go_simp
        refine ⟨HPC.out w7 hB7, ?_⟩
        refine wpAnyX_done (by kernel_rfl) ?_ _
        have HM7 := hide' (And.intro hm7 (And.intro he7 (And.intro hB7 (HB4.out).size)))
        clear hm7 he7 hB7 hb7
        go_wp2_with fail
        obtain ⟨hm7, he7, hB7, hs7⟩ := HM7.out
        refine ⟨⟨k + 1, ms7, by omega, by go_num, hm7.mono (Nat.le_trans HS0.out hs7), by rw [he7, ← HFE.out], HB2.out.trans (hB7.mono HB2.out.size)⟩, ?_⟩
        simp [intOf]; omega
      · have k1 : ¬ (k : Int) < fn := by omega
        have hke : k = fn := by omega
        have hq := HQW.out wr hBr _ ms hms.mems (by rw [hme, hke, ← HFN.out, List.take_length])
        have HQ := hide' hq
        have HB := hide' hBr
        clear hq hms hme hBr hke
        go_wp2_with fail
        refine HQ.out.mono ?_
        rintro r w9 ⟨rfl, S', hf, ht, hsb⟩
        go_wp2_with fail
        go_ret
        exact ⟨rfl, S', hf, (Turn.of_below (S := S) HB.out).trans' ht, fun i hi => (hsb i hi).imp_right fun h => Nat.le_trans HB.out.size h⟩
end Go.Proofs.YtbfchadcpokjoaaGreatDoor
