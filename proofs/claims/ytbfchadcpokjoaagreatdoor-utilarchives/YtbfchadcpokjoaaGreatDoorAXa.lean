/- The archive's contracts in the words of this seat. members and writeMembers. -/
import Derived.Test.YtbfchadcpokjoaaGreatDoorARd
import Derived.Test.YtbfchadcpokjoaaGreatDoorARh
import Derived.Test.YtbfchadcpokjoaaGreatDoorARg
import Derived.Test.YtbfchadcpokjoaaGreatDoorARf
import Derived.Test.YtbfchadcpokjoaaGreatDoorAZc
namespace Go.Proofs.YtbfchadcpokjoaaGreatDoor
open Go.RowKit Go.Maps

abbrev Ee := Bs × Int × Bs
def mE (m : Arc.Mv) : Ee := (m.name, m.date, m.data)
/-- members of which nothing lies in memory -/
def msOf (es : List Ee) : List Arc.Mv := es.map fun e => ⟨e.1, e.2.1, .slice none 0 0, e.2.2⟩
theorem msOf_map (es : List Ee) : (msOf es).map mE = es := by
  unfold msOf
  rw [List.map_map]
  conv => rhs; rw [← List.map_id es]
  exact List.map_congr_left fun e _ => rfl
def arcE (es : List Ee) : Bs := Arc.archB (msOf es)
theorem arc_of {ms : List Arc.Mv} {es : List Ee} (h : ms.map mE = es) : Arc.archB ms = arcE es := Arc.arch_map (show ms.map Arc.toE = (msOf es).map Arc.toE from h.trans (msOf_map es).symm)
theorem wrong_of {ms : List Arc.Mv} {es : List Ee} (h : ms.map mE = es) : Arc.wrongR ms = Arc.wrongR (msOf es) := Arc.wrong_map (show ms.map Arc.toE = (msOf es).map Arc.toE from h.trans (msOf_map es).symm)
/-- what the archive's calls need of the variables -/
structure AEnv (w : World) : Prop where
  env : Arc.Env w
  evs : Arc.EvS w
  mx : Arc.Mx w
  lt : 9 < w.heap.size
theorem AEnv.keep {w w' : World} {B : Nat} (h : AEnv w) (hb : Below B w w') (hB : 9 < B) : AEnv w' := ⟨h.env.keep hb (by omega), h.evs.below hb hB, h.mx.below hb (by omega), Nat.lt_of_lt_of_le h.lt hb.size⟩
theorem awrite (v : Value) (ms : List Arc.Mv) (w : World) (h : Arc.Mems w v ms) (hz : Arc.wrongR ms = 0) (hf : Arc.Fine ms) (hE : AEnv w) :
    Calls Tryz.prog 161 #[v] w fun r w' => Below w.heap.size w w' ∧ ∃ bv, r = .returned (.tuple #[bv, .int .i64 0]) ∧ Dat w' bv (Arc.archB ms) := by
  refine (Arc.Write_any v ms w h hf hE.env (by have := hE.lt; omega)).mono ?_
  rintro r w' ⟨hb, ⟨_, bv, rfl, hD, _⟩ | ⟨hne, _⟩⟩
  · exact ⟨hb, bv, rfl, hD⟩
  · exact absurd hz hne
theorem aparse (v : Value) (bs : Bs) (ms0 : List Arc.Mv) (w : World) (h : Dat w v bs) (hl : bs.length ≤ 100000) (hz : Arc.wrongR ms0 = 0) (ha : Arc.archB ms0 = bs) (hE : AEnv w) :
    Calls Tryz.prog 159 #[v] w fun r w' => Below w.heap.size w w' ∧ ∃ v' ms', r = .returned (.tuple #[v', .int .i64 0]) ∧ Arc.MsAt w' w.heap.size v' ms' ∧ ms'.map mE = ms0.map mE := by
  refine (Arc.Parse_any v bs w (Arc.Dat.tbs (show Arc.Dat w v bs from h)) hl hE.env hE.evs hE.mx hE.lt).mono ?_
  rintro r w' ⟨hb, ⟨v', ms', rfl, hm, _, _, hs⟩ | ⟨k, _, _, hno⟩⟩
  · have h0 := (Arc.arch_scan hz ha).1
    rw [hs] at h0
    exact ⟨hb, v', ms', rfl, hm, Option.some.inj h0⟩
  · exact absurd ha (hno ms0 hz)
theorem aput (v : Value) (ns : List Arc.Mv) (m : Arc.Mv) (w : World) (h : Arc.Mems w v ns) (hm : Rds w m.dv m.data) (hl : ns.length ≤ 100000) (hds : ∀ n ∈ ns, n.name.length ≤ 300000 ∧ n.data.length ≤ 300000) (hpl : m.name.length ≤ 300000) (hxl : m.data.length ≤ 300000) :
    Calls Tryz.prog 128 #[v, .agg #[.string (mk m.name), .int .i64 m.date, m.dv]] w fun r w' => (∃ v' ms', r = .returned v' ∧ Arc.MsAt w' w.heap.size v' ms' ∧ ms'.map mE = (Arc.putM ns m).map mE) ∧ Below w.heap.size w w' :=
  Arc.Put_any v ns m w h hm hl hds hpl hxl
theorem afind (v : Value) (ms : List Arc.Mv) (b : Bs) (w : World) (h : Arc.Mems w v ms) (hl : ms.length ≤ 1099511627776) : Calls Tryz.prog 130 #[v, .string (mk b)] w fun r w' => r = .returned (.int .i64 (Arc.placeR ms b)) ∧ Below w.heap.size w w' :=
  Arc.Find_any v ms b w h hl
/-- put, of names, times and bytes alone -/
def putE (es : List Ee) (x : Ee) : List Ee := match es.findIdx? (fun e => e.1 == x.1) with | some k => es.set k x | none => es ++ [x]
def placeE (es : List Ee) (b : Bs) : Int := match es.findIdx? (fun e => e.1 == b) with | some k => (k : Nat) | none => -1
theorem find_map (ms : List Arc.Mv) (b : Bs) : (ms.map mE).findIdx? (fun e => e.1 == b) = ms.findIdx? (fun m => m.name == b) := by
  rw [List.findIdx?_map]
  rfl
theorem putM_map (ms : List Arc.Mv) (m : Arc.Mv) : (Arc.putM ms m).map mE = putE (ms.map mE) (mE m) := by
  unfold Arc.putM putE Arc.findN
  rw [show (mE m).1 = m.name from rfl, find_map]
  cases ms.findIdx? (fun x => x.name == m.name) with
  | none => simp
  | some k => simp
theorem place_map (ms : List Arc.Mv) (b : Bs) : Arc.placeR ms b = placeE (ms.map mE) b := by
  unfold Arc.placeR placeE Arc.findN
  rw [find_map]
  cases ms.findIdx? (fun m => m.name == b) <;> rfl
end Go.Proofs.YtbfchadcpokjoaaGreatDoor
namespace Go.Proofs.YtbfchadcpokjoaaGreatDoor
open Go.RowKit Go.Maps

/-- what a set of members must be like to be written -/
structure Wl (es : List Ee) : Prop where
  wr : Arc.wrongR (msOf es) = 0
  len : (arcE es).length ≤ 60000
  n : es.length ≤ 1000
  a : Arc.lenA (msOf es) ≤ 1000000
  nm : ∀ e ∈ es, e.1.length ≤ 100000 ∧ e.2.2.length ≤ 100000
theorem neq_flt (v : Value) (w : World) : (binOp .neq 55 (.iface 174 v) .nilIface).run Tryz.prog w = .ok (.bool true) w := by kernel_rfl
theorem lenA_map {ms ns : List Arc.Mv} (h : ms.map Arc.toE = ns.map Arc.toE) : Arc.lenA ms = Arc.lenA ns := by
  unfold Arc.lenA
  rw [Arc.sumM_map (fun _ _ => Arc.wtD_map) h, Arc.sumM_map (fun _ _ => Arc.wtT_map) h]
theorem fine_of {ms : List Arc.Mv} {es : List Ee} (h : ms.map mE = es) (hw : Wl es) : Arc.Fine ms := by
  have hl : ms.length = es.length := by rw [← h, List.length_map]
  refine ⟨by rw [hl]; have := hw.n; omega, ?_, fun m hm => ?_⟩
  · have : Arc.lenA ms = Arc.lenA (msOf es) := lenA_map (show ms.map Arc.toE = (msOf es).map Arc.toE from h.trans (msOf_map es).symm)
    rw [this]
    have := hw.a; omega
  · have := (hw.nm (mE m) (by rw [← h]; exact List.mem_map.2 ⟨m, hm, rfl⟩)).1
    have e : (mE m).1 = m.name := rfl
    rw [e] at this; omega
/-- what members tells of an archive -/
def MbV (w : World) (es : List Ee) (r : Ending) (w' : World) : Prop := Below w.heap.size w w' ∧ ∃ v' ms', r = .returned (.tuple #[v', .nilIface]) ∧ Arc.MsAt w' w.heap.size v' ms' ∧ ms'.map mE = es
set_option maxRecDepth 100000 in
set_option maxHeartbeats 4000000 in
theorem members_ok (B A C : Nat) (E : Addr) (T : Tr) (clk rm : Int) (p : Bs) (S : Nat → Prop) (y iv ov : Value) (w : World) (es : List Ee) (hC : CallAt w C (.pointer (some ⟨A, 0, none⟩)) y iv ov) (h : IsFs w S A T clk rm) (hG : Glo B w E) (hB : B ≤ w.heap.size) (hpl : p.length ≤ 1000) (hD : ∀ e ∈ T, e.2.data.length ≤ 1000000) (hE : AEnv w) (hr : readR T (clean p) = .inr (arcE es)) (hw : Wl es) :
    Calls Tryz.prog 127 #[.pointer (some ⟨C, 0, none⟩), .string (mk p)] w (MbV w es) := by
  have q1 := uread_any B A C E T clk rm (mk p) S y iv ov w hC h hG hB (by rw [mk_size]; omega) hD
  rw [tl_mk, hr] at q1
  have q1 := q1 (fun m e => by cases e)
  have HQ1 := hide' q1
  have HE := hide' hE
  have HW := hide' hw
  clear q1 h hG hC hD hE hw
  go_enter Tryz.func127, Tryz.ntmps127
  go_wp2_with fail
  refine HQ1.out.mono ?_
  rintro r w1 ⟨hb, bv, rfl, hd, ho⟩
  have hn := neq_nil57
  have q := aparse bv (arcE es) (msOf es) w1 hd (by have := HW.out.len; omega) HW.out.wr rfl (HE.out.keep hb HE.out.lt)
  have HQ := hide' q
  have HB := hide' hb
  clear q HQ1 hd ho hb
  go_wp2_with fail
  refine HQ.out.mono ?_
  rintro r w2 ⟨hb2, v', ms', rfl, hm, he⟩
  have HM := hide' hm
  have HB2 := hide' hb2
  have HME := hide' he
  clear hm hb2 he HQ
  go_wp2_with fail
  refine (met_ok w2 _).mono ?_
  rintro r w3 ⟨rfl, rfl⟩
  go_wp2
  go_ret2
  refine ⟨HB.out.trans (HB2.out.mono HB.out.size), v', ms', rfl, HM.out.mono HB.out.size, HME.out.trans (msOf_map es)⟩
/-- what members tells where there is none -/
def MnV (w : World) (r : Ending) (w' : World) : Prop := Below w.heap.size w w' ∧ ∃ g, r = .returned (.tuple #[.slice none 0 0, .iface 174 (.pointer (some ⟨g, 0, none⟩))]) ∧ w'.cell? ⟨g, 1, none⟩ = some (.iface 37 (.int .i64 10))
set_option maxRecDepth 100000 in
set_option maxHeartbeats 4000000 in
theorem members_none (B A C : Nat) (E : Addr) (T : Tr) (clk rm : Int) (p : Bs) (S : Nat → Prop) (y iv ov : Value) (w : World) (hC : CallAt w C (.pointer (some ⟨A, 0, none⟩)) y iv ov) (h : IsFs w S A T clk rm) (hG : Glo B w E) (hB : B ≤ w.heap.size) (hpl : p.length ≤ 1000) (hD : ∀ e ∈ T, e.2.data.length ≤ 1000000) (hr : readR T (clean p) = .inl 10) :
    Calls Tryz.prog 127 #[.pointer (some ⟨C, 0, none⟩), .string (mk p)] w (MnV w) := by
  have q1 := uread_any B A C E T clk rm (mk p) S y iv ov w hC h hG hB (by rw [mk_size]; omega) hD
  rw [tl_mk, hr] at q1
  have q1 := q1 (fun m e => by cases e; decide)
  have HQ1 := hide' q1
  clear q1 h hG hC hD
  go_enter Tryz.func127, Tryz.ntmps127
  go_wp2_with fail
  refine HQ1.out.mono ?_
  rintro r w1 ⟨hb, g, rfl, hg⟩
  have hn := neq_flt
  have HG := hide' hg
  have HB := hide' hb
  clear HQ1 hg hb
  go_wp2
  go_ret2
  exact ⟨HB.out, g, rfl, by rw [Lib.cell_of_heap HG.out]; rfl⟩
set_option maxRecDepth 100000 in
set_option maxHeartbeats 4000000 in
theorem wmembers_ok (B A C : Nat) (E : Addr) (T T' : Tr) (clk clk' rm : Int) (p : Bs) (S : Nat → Prop) (y iv ov v : Value) (ms : List Arc.Mv) (w : World) (es : List Ee) (hC : CallAt w C (.pointer (some ⟨A, 0, none⟩)) y iv ov) (h : IsFs w S A T clk rm) (hG : Glo B w E) (hB : B ≤ w.heap.size) (hS : ∀ i, S i → B ≤ i) (hk1 : clk ≤ 1099511627776000) (hpl : p.length ≤ 1000) (hE : AEnv w) (hM : Arc.Mems w v ms) (he : ms.map mE = es) (hw : Wl es) (hwr : writeR T clk rm (clean p) (arcE es) false = (0, T', clk')) :
    Calls Tryz.prog 129 #[.pointer (some ⟨C, 0, none⟩), .string (mk p), v] w fun r w' => r = .returned .nilIface ∧ FsOk S A rm T' clk' w w' := by
  have q1 := awrite v ms w hM (by rw [wrong_of he]; exact hw.wr) (fine_of he hw) hE
  rw [arc_of he] at q1
  have hCl := lt_of_block hC
  have q2 := fun (w1 : World) (hb : Below w.heap.size w w1) (bv : Value) (hbv : Rds w1 bv (arcE es)) => uwrite_any B A C E T clk rm (mk p) (arcE es) bv S y iv ov w1 ((hb.block C hCl).trans hC) (h.below hb) (hG.keep (hb.mono hB)) (Nat.le_trans hB hb.size) hS hk1 (by rw [mk_size]; omega) hbv (by have := hw.len; omega)
  simp only [tl_mk, hwr] at q2
  have HQ1 := hide' q1
  have HQ2 := hide' q2
  obtain ⟨sa, cap, rfl⟩ := hM.len
  clear q1 q2 h hG hC hE hM he hw
  generalize ms.length = nn at HQ1 ⊢
  go_enter Tryz.func129, Tryz.ntmps129
  go_wp2_with fail
  refine HQ1.out.mono ?_
  rintro r w1 ⟨hb, bv, rfl, hd⟩
  go_wp2_with fail
  refine (met_ok w1 _).mono ?_
  rintro r w2 ⟨rfl, rfl⟩
  have hn := neq_nil57
  have q := HQ2.out w2 hb bv (Dat.rds hd)
  have HQ := hide' q
  have HB := hide' hb
  clear q HQ1 HQ2 hd hb
  go_wp2_with fail
  refine HQ.out.mono ?_
  rintro r w3 ⟨he, S', hf, ht, hsb⟩
  rcases he with ⟨_, rfl⟩ | ⟨hne, _⟩
  · go_wp2
    go_ret
    exact ⟨rfl, S', hf, (Turn.of_below (S := S) HB.out).trans' ht, fun i hi => (hsb i hi).imp_right fun h => Nat.le_trans HB.out.size h⟩
  · exact absurd rfl hne
end Go.Proofs.YtbfchadcpokjoaaGreatDoor
