/- VfsMakes answers true at every tree. -/
import Derived.Test.YtamohpcdchhbbaaGreatDoorJLent
import Derived.Test.YtamohpcdchhbbaaGreatDoorJNew
import Derived.Test.YtamohpcdchhbbaaGreatDoorBig
import Derived.Test.YtamohpcdchhbbaaGreatDoorJAlive
namespace Go.Proofs.YtamohpcdchhbbaaGreatDoor
open Go.RowKit Go.Maps

theorem newR_num {ns : List Nv} {clk rm : Int} {k : Er} (h : newR ns clk rm = .inl k) : k.num ≠ 0 := by
  unfold newR at h
  have hl : lenR ns = .ok ∨ lenR ns = .no 2 := by unfold lenR; split <;> simp
  rcases hl with e | e
  · rw [e] at h
    simp only at h
    split at h
    · cases hp : plantR clk ns with
      | none => rw [hp] at h; cases h; simp [Er.num]
      | some st =>
        rw [hp] at h
        simp only at h
        split at h
        · cases h; simp [Er.num]
        · cases h
    · cases h; simp [Er.num]
  · rw [e] at h
    simp only at h
    cases h; simp [Er.num]
theorem IsFs.shrink {w : World} {S : Nat → Prop} {A : Nat} {T : Tr} {clk rm : Int} (h : IsFs w S A T clk rm) : IsFs w (fun i => S i ∧ i < w.heap.size) A T clk rm := by
  obtain ⟨⟨M, L, hF, hO, hL⟩, a, b, c, d⟩ := h
  exact ⟨⟨M, L, hF, ⟨⟨hO.sA, hF.fb.lt⟩, ⟨hO.sM, hF.mp.lt⟩, fun e he => ⟨hO.sB e he, (hF.nodes e he).lt⟩, fun e he g hg => ⟨hO.sD e he g hg, (hO.dat e he).lt g hg⟩, hO.dat, hO.apB, hO.apD⟩, hL⟩, a, b, c, d⟩
theorem Spoil_lt (b0 : Nat) (v : Value) (ms : List Nv) (clk rm : Int) (w W : World) (h : LtAt w b0 v ms) (hW : Below w.heap.size w W) (hl : ms.length ≤ 1000000) (hds : ∀ m ∈ ms, m.nd.data.length ≤ 1000000) :
    Calls Tryz.prog 14 #[.agg #[v, .int .i64 clk, .int .i64 rm]] W fun r w' => r = .returned (.tuple #[]) ∧ Turn (fun i => b0 ≤ i ∧ i < w.heap.size) W w' := by
  have hN := h.nodes
  obtain ⟨g, cap, cur, rfl, hb, hg, hc, hs, _, ht⟩ := h.row
  refine spoil_row _ g ms.length cap clk rm W hl (by omega) (SpRow.below (w := w) ⟨⟨hb, lt_of_block hg⟩, ⟨cur, hg, by omega⟩, fun j _ hj => ?_⟩ hW)
  obtain ⟨m, hm⟩ : ∃ m, ms[j]? = some m := ⟨_, List.getElem?_eq_getElem hj⟩
  have hmem := List.mem_of_getElem? hm
  rcases hN with ⟨_, e⟩ | ⟨g', o', cap', e, _, hR, _⟩
  · rw [e] at hj; simp at hj
  · cases e
    have := hR.c3 j m hm
    rw [Nat.zero_add] at this
    obtain ⟨g4, c4, cur4, e1, e2, e3, e4, e5, e6, e7⟩ := (h.dat m hmem).lt
    refine ⟨m.dv, this, ?_⟩
    rw [e1]
    refine .inr ⟨g4, _, c4, cur4, rfl, ⟨e2, lt_of_block e3⟩, e3, hds m hmem, fun i hi => ⟨m.nd.data[i], ?_⟩⟩
    have := ldat_cell (w := w) e3 e7 (j := i) (x := m.nd.data[i]) (by rw [List.getElem?_append_left hi, List.getElem?_eq_getElem hi])
    rw [Lib.cell_of_heap e3] at this
    exact this
theorem Spoil_ns (b0 : Nat) (v : Value) (ms : List Nv) (clk rm : Int) (w : World) (h : NsAt w b0 v ms) (hl : ms.length ≤ 1000000) (hds : ∀ m ∈ ms, m.nd.data.length ≤ 1000000) :
    Calls Tryz.prog 14 #[.agg #[v, .int .i64 clk, .int .i64 rm]] w fun r w' => r = .returned (.tuple #[]) ∧ Turn (fun i => b0 ≤ i) w w' := by
  have hN := h.nodes
  rcases h.row with ⟨rfl, rfl⟩ | ⟨g, cap, cur, rfl, hb, hg, hc, hs, ht⟩
  · exact spoil_nil _ none 0 clk rm w
  refine spoil_row _ g ms.length cap clk rm w hl (by omega) ⟨hb, ⟨cur, hg, by omega⟩, fun j _ hj => ?_⟩
  obtain ⟨m, hm⟩ : ∃ m, ms[j]? = some m := ⟨_, List.getElem?_eq_getElem hj⟩
  have hmem := List.mem_of_getElem? hm
  rcases hN with ⟨_, e⟩ | ⟨g', o', cap', e, _, hR, _⟩
  · rw [e] at hj; simp at hj
  · cases e
    have := hR.c3 j m hm
    rw [Nat.zero_add] at this
    exact ⟨m.dv, this, (h.dat m hmem).datB (h.hi m hmem) (hds m hmem)⟩
def fromE (e : Bs × Nd) : Nv := ⟨e.1, .slice none 0 0, e.2⟩
theorem any_toE (ns : List Nv) : ns.any long = (ns.map toE).any (fun e => long (fromE e)) := by
  rw [List.any_map]
  rfl
theorem fold_toE (clk : Int) (ns : List Nv) (st : Option (Bs × Tr)) : ns.foldl (stepP clk) st = (ns.map toE).foldl (fun s e => stepP clk s (fromE e)) st := by
  rw [List.foldl_map]
  rfl
theorem newR_congr {ms ns : List Nv} (h : ms.map toE = ns.map toE) (clk rm : Int) : newR ms clk rm = newR ns clk rm := by
  have h1 : ms.length = ns.length := by have := congrArg List.length h; simpa using this
  have h2 : ms.any long = ns.any long := by rw [any_toE, any_toE, h]
  have h3 : plantR clk ms = plantR clk ns := by unfold plantR; rw [fold_toE, fold_toE, h]
  have h4 : lenR ms = lenR ns := by unfold lenR; rw [h1, h2]
  unfold newR
  rw [h3, h4]
theorem ptr_nil_eq (w : World) : (binOp .eql 28 (.pointer none) (.pointer none)).run Tryz.prog w = .ok (.bool true) w := by kernel_rfl
set_option maxRecDepth 100000 in
set_option maxHeartbeats 8000000 in
theorem makes_any (B : Nat) (E : Addr) (v : Value) (ns : List Nv) (clk rm : Int) (w : World) (h : Nodes w v ns) (hG : Glo B w E) (hB : B ≤ w.heap.size) (hlim : ∀ n ∈ ns, Lim n) (hml : ns.length ≤ 140737488355328) :
    Calls Tryz.prog 3 #[.agg #[v, .int .i64 clk, .int .i64 rm]] w fun r w' => r = .returned (.bool true) ∧ Below w.heap.size w w' := by
  obtain ⟨va, vc, rfl⟩ := h.len
  have hb0 : Below w.heap.size w (w.alloc (.cells #[.slice va ns.length vc, .int .i64 clk, .int .i64 rm] 24)) := (Below.refl _ _).alloc (Nat.le_refl _) _
  have z0 := alloc_new w (.cells #[.slice va ns.length vc, .int .i64 clk, .int .i64 rm] 24)
  obtain ⟨w0, hw0⟩ : ∃ w0, w0 = w.alloc (.cells #[.slice va ns.length vc, .int .i64 clk, .int .i64 rm] 24) := ⟨_, rfl⟩
  have hs0 : w0.heap.size = w.heap.size + 1 := by rw [hw0]; simp
  rw [← hw0] at hb0 z0
  have qa := alive_any B E w0 (hG.keep (hb0.mono hB)) (Nat.le_trans hB hb0.size)
  go_enter Tryz.func3, Tryz.ntmps3
  go_wp2_with fail
  rw [← hw0]
  refine qa.mono ?_
  rintro r w1 ⟨rfl, hb1⟩
  have hB1 : Below w.heap.size w w1 := hb0.trans (hb1.mono hb0.size)
  have hs1 := hb1.size
  clear qa hw0
  have z1 := (hb1.block w.heap.size (by omega)).trans z0
  have t0 : w1.cell? ⟨w.heap.size, 0, none⟩ = some (.slice va ns.length vc) := by rw [Lib.cell_of_heap z1]; rfl
  have t1 : w1.cell? ⟨w.heap.size, 1, none⟩ = some (.int .i64 clk) := by rw [Lib.cell_of_heap z1]; rfl
  have t2 : w1.cell? ⟨w.heap.size, 2, none⟩ = some (.int .i64 rm) := by rw [Lib.cell_of_heap z1]; rfl
  have qb := Big_any _ ns clk rm w1 (h.below hB1) hlim hml
  go_wp2_with fail
  refine qb.mono ?_
  rintro r w2 ⟨⟨b2, rfl, hb2t⟩, hb2⟩
  have hB2 : Below w.heap.size w w2 := hB1.trans (hb2.mono hB1.size)
  have hs2 := hb2.size
  have z2 := (hb2.block w.heap.size (by omega)).trans z1
  have s0 : w2.cell? ⟨w.heap.size, 0, none⟩ = some (.slice va ns.length vc) := by rw [Lib.cell_of_heap z2]; rfl
  have s1 : w2.cell? ⟨w.heap.size, 1, none⟩ = some (.int .i64 clk) := by rw [Lib.cell_of_heap z2]; rfl
  have s2 : w2.cell? ⟨w.heap.size, 2, none⟩ = some (.int .i64 rm) := by rw [Lib.cell_of_heap z2]; rfl
  clear qb t0 t1 t2
  cases b2 with
  | true =>
    go_wp2
    go_ret
    exact ⟨rfl, hB2⟩
  | false =>
    obtain ⟨hnl, hns⟩ := hb2t rfl
    have ql := Lent_any _ ns clk rm w2 (h.below hB2) hnl (fun n hn => (hns n hn).2)
    clear hb2t
    go_wp2_with fail
    refine ql.mono ?_
    rintro r w3 ⟨⟨fv, ms, rfl, hL3, hme⟩, hb3⟩
    clear ql s0 s1 s2
    have hB3 : Below w.heap.size w w3 := hB2.trans (hb3.mono hB2.size)
    have hs3 := hb3.size
    have hmls : ms.length = ns.length := by have := congrArg List.length hme; simpa using this
    have hmem : ∀ m ∈ ms, ∃ n ∈ ns, toE n = toE m := fun m hm => by
      have : toE m ∈ ns.map toE := by rw [← hme]; exact List.mem_map.2 ⟨m, hm, rfl⟩
      obtain ⟨n, hn, e⟩ := List.mem_map.1 this
      exact ⟨n, hn, e⟩
    have hmd : ∀ m ∈ ms, m.path.length ≤ 300000 ∧ m.nd.data.length ≤ 300000 := fun m hm => by
      obtain ⟨n, hn, e⟩ := hmem m hm
      rw [toE_iff] at e
      have := hns n hn
      unfold Sml at this
      rw [e.1, e.2.2.2] at this
      exact this
    obtain ⟨fa, fc, hfv⟩ := hL3.nodes.len
    rw [hmls] at hfv
    subst hfv
    have hb4 : Below w3.heap.size w3 (w3.alloc (.cells #[.slice fa ns.length fc, .int .i64 clk, .int .i64 rm] 24)) := (Below.refl _ _).alloc (Nat.le_refl _) _
    have y4 := alloc_new w3 (.cells #[.slice fa ns.length fc, .int .i64 clk, .int .i64 rm] 24)
    obtain ⟨w4, hw4⟩ : ∃ w4, w4 = w3.alloc (.cells #[.slice fa ns.length fc, .int .i64 clk, .int .i64 rm] 24) := ⟨_, rfl⟩
    rw [← hw4] at hb4 y4
    have hB4 : Below w.heap.size w w4 := hB3.trans (hb4.mono hB3.size)
    have hL4 := hL3.below hb4
    have qn := New_any B E _ ms clk rm w4 hL4.nodes (hG.keep (hB4.mono hB)) (Nat.le_trans hB hB4.size) (fun n hn => by have := (hmd n hn).1; omega)
    rw [newR_congr hme] at qn
    have hs4 := hb4.size
    have hs43 : w3.heap.size < w4.heap.size := lt_of_block y4
    go_wp2_with fail
    rw [← hw4]
    clear hw4
    refine qn.mono ?_
    rintro r w5 ⟨hb5, hnew⟩
    clear qn
    have hB5 : Below w.heap.size w w5 := hB4.trans (hb5.mono hB4.size)
    have hs5 := hb5.size
    have hL5 := hL4.below hb5
    have qs := Stays_any _ _ _ ms ns clk rm w5 hL5 (h.below hB5) hme hnl (fun m hm => (hmd m hm).2)
    have y5 := (hb5.block _ hs43).trans y4
    have z5 := (hb5.block w.heap.size (by omega)).trans ((hb4.block w.heap.size (by omega)).trans ((hb3.block w.heap.size (by omega)).trans z2))
    have f0 : w5.cell? ⟨w3.heap.size, 0, none⟩ = some (.slice fa ns.length fc) := by rw [Lib.cell_of_heap y5]; rfl
    have f1 : w5.cell? ⟨w3.heap.size, 1, none⟩ = some (.int .i64 clk) := by rw [Lib.cell_of_heap y5]; rfl
    have f2 : w5.cell? ⟨w3.heap.size, 2, none⟩ = some (.int .i64 rm) := by rw [Lib.cell_of_heap y5]; rfl
    have s0 : w5.cell? ⟨w.heap.size, 0, none⟩ = some (.slice va ns.length vc) := by rw [Lib.cell_of_heap z5]; rfl
    have s1 : w5.cell? ⟨w.heap.size, 1, none⟩ = some (.int .i64 clk) := by rw [Lib.cell_of_heap z5]; rfl
    have s2 : w5.cell? ⟨w.heap.size, 2, none⟩ = some (.int .i64 rm) := by rw [Lib.cell_of_heap z5]; rfl
    have HM := hide' hme
    have HD := hide' hmd
    clear hme hmd hmem hns
    have hps : ∀ n ∈ ns, n.path.length ≤ 300000 := fun n hn => by
      obtain ⟨m, hm, e⟩ : ∃ m ∈ ms, toE m = toE n := by
        have : toE n ∈ ms.map toE := by rw [HM.out]; exact List.mem_map.2 ⟨n, hn, rfl⟩
        obtain ⟨m, hm, e⟩ := List.mem_map.1 this
        exact ⟨m, hm, e⟩
      rw [toE_iff] at e
      have := (HD.out m hm).1
      rw [e.1] at this
      exact this
    cases hN : newR ns clk rm with
    | inl k =>
      rw [hN] at hnew
      have hk0 := newR_num hN
      simp only at hnew
      subst hnew
      have qr := fun W (hW : Below w.heap.size w W) => rnew_any _ ns clk rm W (h.below hW) hps
      rw [hN] at qr
      have hkc : ¬ (k.num : Int) = 0 := by omega
      have hkd : ((k.num : Int) == 0) = false := beq_eq_false_iff_ne.2 hkc
      have hnil := ptr_nil_eq
      go_wp2_with fail
      refine qs.mono ?_
      rintro r w6 ⟨rfl, hb6⟩
      have hB6 : Below w.heap.size w w6 := hB5.trans (hb6.mono hB5.size)
      have z6 := (hb6.block w.heap.size (by omega)).trans z5
      have t0 : w6.cell? ⟨w.heap.size, 0, none⟩ = some (.slice va ns.length vc) := by rw [Lib.cell_of_heap z6]; rfl
      have t1 : w6.cell? ⟨w.heap.size, 1, none⟩ = some (.int .i64 clk) := by rw [Lib.cell_of_heap z6]; rfl
      have t2 : w6.cell? ⟨w.heap.size, 2, none⟩ = some (.int .i64 rm) := by rw [Lib.cell_of_heap z6]; rfl
      have q6 := qr _ hB6
      clear qs qr s0 s1 s2 f0 f1 f2
      go_wp2_with fail
      refine q6.mono ?_
      rintro r w7 ⟨hb7, hr7⟩
      simp only at hr7
      subst hr7
      have hB7 : Below w.heap.size w w7 := hB6.trans (hb7.mono hB6.size)
      clear q6 t0 t1 t2 hN
      go_wp2_with (go_at_call 13; refine (num_any _ _).mono ?_; rintro r w8 ⟨rfl, rfl⟩)
      · rename_i hx
        exfalso
        rw [bne, hkd] at hx
        cases hx
      · go_ret
        exact ⟨rfl, hB7⟩
    | inr T =>
      rw [hN] at hnew
      obtain ⟨G, rfl, hF5⟩ := hnew
      have hTe := (new_inr hN).1
      have hF5 := hF5.shrink
      have qr := fun W (hW : Below w.heap.size w W) => rnew_any _ ns clk rm W (h.below hW) hps
      rw [hN] at qr
      have hnil := eq_fs_nil G
      have HT := hide' hTe
      have HF := hide' hF5
      clear hTe hF5 hN
      go_wp2_with fail
      refine qs.mono ?_
      rintro r w6 ⟨rfl, hb6⟩
      have hs6 := hb6.size
      have hB6 : Below w.heap.size w w6 := hB5.trans (hb6.mono hB5.size)
      have z6 := (hb6.block w.heap.size (by omega)).trans z5
      have t0 : w6.cell? ⟨w.heap.size, 0, none⟩ = some (.slice va ns.length vc) := by rw [Lib.cell_of_heap z6]; rfl
      have t1 : w6.cell? ⟨w.heap.size, 1, none⟩ = some (.int .i64 clk) := by rw [Lib.cell_of_heap z6]; rfl
      have t2 : w6.cell? ⟨w.heap.size, 2, none⟩ = some (.int .i64 rm) := by rw [Lib.cell_of_heap z6]; rfl
      have q6 := qr _ hB6
      clear qs qr s0 s1 s2 f0 f1 f2
      go_wp2_with fail
      refine q6.mono ?_
      rintro r w7 ⟨hb7, R, rv, rms, rfl, _, _, _, _⟩
      have hs7 := hb7.size
      have hB7 : Below w.heap.size w w7 := hB6.trans (hb7.mono hB6.size)
      have h57 : Below w5.heap.size w5 w7 := hb6.trans (hb7.mono hb6.size)
      have y7 := (h57.block _ (by omega)).trans y5
      have f0 : w7.cell? ⟨w3.heap.size, 0, none⟩ = some (.slice fa ns.length fc) := by rw [Lib.cell_of_heap y7]; rfl
      have f1 : w7.cell? ⟨w3.heap.size, 1, none⟩ = some (.int .i64 clk) := by rw [Lib.cell_of_heap y7]; rfl
      have f2 : w7.cell? ⟨w3.heap.size, 2, none⟩ = some (.int .i64 rm) := by rw [Lib.cell_of_heap y7]; rfl
      have z7 := (hb7.block w.heap.size (by omega)).trans z6
      have h37 : Below w3.heap.size w3 w7 := hb4.trans ((hb5.mono hs4).trans (h57.mono (Nat.le_trans hs4 hs5)))
      have qp := Spoil_lt _ _ ms clk rm w3 w7 hL3 h37 (by omega) (fun m hm => by have := (HD.out m hm).2; omega)
      clear q6 t0 t1 t2
      go_wp2_with fail
      refine (num_any _ _).mono ?_
      rintro r w7' ⟨rfl, rfl⟩
      go_wp2_with fail
      refine qp.mono ?_
      rintro r w8 ⟨rfl, ht8⟩
      have hs8 := ht8.size
      have hF8 : IsFs w8 (fun i => w4.heap.size ≤ i ∧ i < w5.heap.size) G T clk rm := (HF.out.below h57).apart hs8 fun b hb => ht8.block b (by omega) (fun hh => by omega)
      have hB8 : Below w.heap.size w w8 := hB7.trans (ht8.below hB7.size (fun i hi => by omega))
      have z8 := (ht8.block w.heap.size (by omega) (fun hh => by omega)).trans z7
      have qt := Tree_any G T clk rm _ w8 hF8
      clear qp f0 f1 f2
      go_wp2_with fail
      refine qt.mono ?_
      rintro r w9 ⟨⟨av, nas, rfl, hA9, hAe⟩, hb9⟩
      clear qt
      have hs9 := hb9.size
      have hB9 : Below w.heap.size w w9 := hB8.trans (hb9.mono hB8.size)
      have hals : nas.length = ns.length := by have := congrArg List.length (hAe.trans HT.out); simpa using this
      obtain ⟨aa, ac, hav⟩ := hA9.nodes.len
      rw [hals] at hav
      subst hav
      have hb10 : Below w9.heap.size w9 (w9.alloc (.cells #[.slice aa ns.length ac, .int .i64 clk, .int .i64 rm] 24)) := (Below.refl _ _).alloc (Nat.le_refl _) _
      have y10 := alloc_new w9 (.cells #[.slice aa ns.length ac, .int .i64 clk, .int .i64 rm] 24)
      obtain ⟨w10, hw10⟩ : ∃ w10, w10 = w9.alloc (.cells #[.slice aa ns.length ac, .int .i64 clk, .int .i64 rm] 24) := ⟨_, rfl⟩
      rw [← hw10] at hb10 y10
      have hs10 := lt_of_block y10
      have hB10 : Below w.heap.size w w10 := hB9.trans (hb10.mono hB9.size)
      have z10 := (hb10.block w.heap.size (by omega)).trans ((hb9.block w.heap.size (by omega)).trans z8)
      have s0 : w10.cell? ⟨w.heap.size, 0, none⟩ = some (.slice va ns.length vc) := by rw [Lib.cell_of_heap z10]; rfl
      have s1 : w10.cell? ⟨w.heap.size, 1, none⟩ = some (.int .i64 clk) := by rw [Lib.cell_of_heap z10]; rfl
      have s2 : w10.cell? ⟨w.heap.size, 2, none⟩ = some (.int .i64 rm) := by rw [Lib.cell_of_heap z10]; rfl
      have f0 : w10.cell? ⟨w9.heap.size, 0, none⟩ = some (.slice aa ns.length ac) := by rw [Lib.cell_of_heap y10]; rfl
      have f1 : w10.cell? ⟨w9.heap.size, 1, none⟩ = some (.int .i64 clk) := by rw [Lib.cell_of_heap y10]; rfl
      have f2 : w10.cell? ⟨w9.heap.size, 2, none⟩ = some (.int .i64 rm) := by rw [Lib.cell_of_heap y10]; rfl
      have qe := Same_any _ _ nas ns clk rm clk rm w10 (hA9.nodes.below hb10) (h.below hB10) (by omega)
      go_upto_region 15 with fail
      rw [← hw10]
      clear hw10
      go_wp2_with fail
      refine qe.mono ?_
      rintro r w11 ⟨⟨b, rfl, hbt⟩, hb11⟩
      obtain rfl : b = true := hbt.2 (by simp [hAe, HT.out])
      clear hbt qe s0 s1 s2 f0 f1 f2
      have hs11 := hb11.size
      have hB11 : Below w.heap.size w w11 := hB10.trans (hb11.mono hB10.size)
      have h911 : Below w9.heap.size w9 w11 := hb10.trans (hb11.mono (Nat.le_of_lt hs10))
      have y11 := (hb11.block _ hs10).trans y10
      have z11 := (hb11.block w.heap.size (by omega)).trans z10
      have f0 : w11.cell? ⟨w9.heap.size, 0, none⟩ = some (.slice aa ns.length ac) := by rw [Lib.cell_of_heap y11]; rfl
      have f1 : w11.cell? ⟨w9.heap.size, 1, none⟩ = some (.int .i64 clk) := by rw [Lib.cell_of_heap y11]; rfl
      have f2 : w11.cell? ⟨w9.heap.size, 2, none⟩ = some (.int .i64 rm) := by rw [Lib.cell_of_heap y11]; rfl
      have had : ∀ m ∈ nas, m.nd.data.length ≤ 1000000 := fun m hm => by
        have hmm : toE m ∈ ms.map toE := by rw [HM.out, ← HT.out, ← hAe]; exact List.mem_map.2 ⟨m, hm, rfl⟩
        obtain ⟨n, hn, e⟩ := List.mem_map.1 hmm
        rw [toE_iff] at e
        have := (HD.out n hn).2
        rw [e.2.2.2] at this
        omega
      have qp := Spoil_ns _ _ nas clk rm w11 (hA9.below h911) (by omega) had
      go_wp2_with fail
      refine qp.mono ?_
      rintro r w12 ⟨rfl, ht12⟩
      clear qp f0 f1 f2
      have hs12 := ht12.size
      have hF12 : IsFs w12 (fun i => w4.heap.size ≤ i ∧ i < w5.heap.size) G T clk rm := ((hF8.below hb9).below h911).apart hs12 fun b hb => ht12.block b (by omega) (fun hh => by omega)
      have hB12 : Below w.heap.size w w12 := hB11.trans (ht12.below hB11.size (fun i hi => by omega))
      have z12 := (ht12.block w.heap.size (by omega) (fun hh => by omega)).trans z11
      have hP : PlC w.heap.size (.slice va ns.length vc) clk rm w12.drew := ⟨by show w12.cell? _ = _; rw [Lib.cell_of_heap z12]; rfl, by show w12.cell? _ = _; rw [Lib.cell_of_heap z12]; rfl, by show w12.cell? _ = _; rw [Lib.cell_of_heap z12]; rfl⟩
      obtain ⟨wd, hwd⟩ : ∃ wd, wd = w12.drew := ⟨_, rfl⟩
      have hFd : IsFs wd (fun i => w4.heap.size ≤ i ∧ i < w5.heap.size) G T clk rm := by rw [hwd]; exact hF12.apart (Nat.le_refl _) (fun _ _ => rfl)
      have hBd : Below w.heap.size w wd := by rw [hwd]; exact hB12.drew
      have hzd : w.heap.size < wd.heap.size := by rw [hwd]; exact lt_of_block z12
      rw [← hwd] at hP
      have qt := Tree_any G T clk rm _ wd hFd
      go_upto_region 17 with fail
      refine wp_region_class (C := PlC w.heap.size (.slice va ns.length vc) clk rm) (by kernel_rfl) ?_
      rw [← hwd]
      clear hwd
      have HZ := hide' (And.intro hBd (And.intro HT.out h))
      clear hF12 hB12 z12 z11 y11 hB11 hb11 h911 hF8 hA9 z10 y10 hb10 hB10 ht12 hFd
      (refine wpAnyC_take (i := 0) (v := ?_) hP rfl (by kernel_rfl) (by kernel_rfl) (by kernel_rfl) (fun _ _ _ h => h) (Or.inl ⟨by kernel_rfl, ?_⟩) ?_; rotate_left; (intro w hc; have k0 := hc.c0; have k1 := hc.c1; have k2 := hc.c2; clear hc; go_simp; try with_reducible rfl))
      (refine wpAnyC_take (i := 1) (v := ?_) hP rfl (by kernel_rfl) (by kernel_rfl) (by kernel_rfl) (fun _ _ _ h => h) (Or.inl ⟨by kernel_rfl, ?_⟩) ?_; rotate_left; (intro w hc; have k0 := hc.c0; have k1 := hc.c1; have k2 := hc.c2; clear hc; go_simp; try with_reducible rfl))
      (refine wpAnyC_take (i := 2) (v := ?_) hP rfl (by kernel_rfl) (by kernel_rfl) (by kernel_rfl) (fun _ _ _ h => h) (Or.inl ⟨by kernel_rfl, ?_⟩) ?_; rotate_left; (intro w hc; have k0 := hc.c0; have k1 := hc.c1; have k2 := hc.c2; clear hc; go_simp; try with_reducible rfl))
      (refine wpAnyC_take (i := 4) (v := ?_) hP rfl (by kernel_rfl) (by kernel_rfl) (by kernel_rfl) (fun _ _ _ h => h) (Or.inl ⟨by kernel_rfl, ?_⟩) ?_; rotate_left; (intro w hc; have k0 := hc.c0; have k1 := hc.c1; have k2 := hc.c2; clear hc; go_simp; try with_reducible rfl))
      refine wpAnyC_one (i := 3) (by kernel_rfl) (wpOp_wanted rfl (by rfl) ?_)
      go_simp
      refine qt.mono ?_
      rintro r w13 ⟨⟨cv, cs, rfl, hC13, hCe⟩, hb13⟩
      dsimp only
      have hP13 := hP.below hb13 hzd
      have hcls : cs.length = ns.length := by have := congrArg List.length (hCe.trans HT.out); simpa using this
      obtain ⟨ca, cc, hcv⟩ := hC13.nodes.len
      rw [hcls] at hcv
      subst hcv
      have hB13 : Below w.heap.size w w13 := HZ.out.1.trans (hb13.mono HZ.out.1.size)
      have qe := Same_any _ _ cs ns clk rm clk rm w13 hC13.nodes (h.below hB13) (by omega)
      refine ⟨hP13, ?_⟩
      refine wpAnyC_one (i := 5) (by kernel_rfl) (wpOp_wanted rfl (by rfl) ?_)
      go_simp
      refine qe.mono ?_
      rintro r w14 ⟨⟨b, rfl, hbt⟩, hb14⟩
      obtain rfl : b = true := hbt.2 (by simp [hCe, HT.out])
      clear hbt qe
      dsimp only
      have hP14 := hP13.below hb14 (Nat.lt_of_lt_of_le hzd hb13.size)
      refine ⟨hP14, ?_⟩
      refine wpAnyC_one (i := 6) (by kernel_rfl) (wpOp_wanted rfl (by rfl) ?_)
      go_simp
      refine wpAnyC_one (i := 7) (by kernel_rfl) (wpOp_wanted rfl (by rfl) ?_)
      go_simp
      refine wpAnyC_done (by kernel_rfl) ?_ _
      go_wp2
      go_ret
      exact ⟨rfl, hB13.trans (hb14.mono hB13.size)⟩
end Go.Proofs.YtamohpcdchhbbaaGreatDoor
