import Derived.Test.YtabmnkddmdffkaaGreatDoorASek
import Derived.Test.YtabmnkddmdffkaaGreatDoorARttG
import Derived.Test.YtabmnkddmdffkaaGreatDoorAPrpG
import Derived.Test.YtabmnkddmdffkaaGreatDoorAAlv
import Derived.Test.YtabmnkddmdffkaaGreatDoorABig
import Derived.Test.YtabmnkddmdffkaaGreatDoorASame
import Derived.Test.YtabmnkddmdffkaaGreatDoorATreeAnyG
import Derived.Test.YtabmnkddmdffkaaGreatDoorARefNew
import Derived.Test.YtabmnkddmdffkaaGreatDoorANewG
namespace Go.Proofs.YtabmnkddmdffkaaGreatDoor.Sk
open Go.RowKit Go.Maps Go.Shelf
def PaAt (w : World) (v : Value) (L : List Prw) : Prop :=
 ∃ a cap, v = .slice a L.length cap ∧ L.length ≤ cap ∧ (a = none → cap = 0) ∧ ∀ j x, L[j]? = some x → ∃ b off, a = some ⟨b, off, none⟩ ∧ b < w.heap.size ∧ w.cell? ⟨b, off + j * 2, none⟩ = some (.string x.1) ∧ w.cell? ⟨b, off + j * 2 + 1, none⟩ = some (.string x.2)
theorem foldl_bad (isd : Nd → Bool) (T : Tr) (p : List UInt8) : ∀ (l : List Nat) (st : Lk Nd) (m : Nat), (∀ n, st = .bad n → n = 10 ∨ n = 11) → l.foldl (stp isd T p) st = .bad m → m = 10 ∨ m = 11
 | [], st, m, hs, h => hs m h
 | i :: r, st, m, hs, h => foldl_bad isd T p r _ m (fun n hn => by
     have hl : ∀ q, lkOf (fnd T q) ≠ .bad n := fun q => by cases fnd T q <;> exact fun e => by cases e
     cases st with
     | bad e => exact hs n hn
     | non => injection hn with hn; omega
     | rt => exact absurd hn (hl _)
     | is x =>
      simp only [stp] at hn
      split at hn
      ·exact absurd hn (hl _)
      ·injection hn with hn; omega) h
theorem lookN_bad0 {T : Tr} {p : List UInt8} {m : Nat} (h : lookN T p = .bad m) : m ≠ 0 := by
 unfold lookN at h
 split at h
 ·have := foldl_bad _ T p (ends p) .rt m (fun n hn => by cases hn) h
  omega
 ·injection h with h; omega
theorem newR_num {ns : List Nv} {clk rm : Int} {k : Er} (h : newR ns clk rm = .inl k) : k.num ≠ 0 := by
 unfold newR at h
 have hl : lenR ns = .ok ∨ lenR ns = .no 2 := by unfold lenR; split <;> simp
 rcases hl with e | e
 ·rw [e] at h
  simp only at h
  split at h
  ·cases hp : plantR clk ns with
   | none => rw [hp] at h; cases h; simp [Er.num]
   | some st =>
    rw [hp] at h
    simp only at h
    split at h
    ·cases h; simp [Er.num]
    ·cases h
  ·cases h; simp [Er.num]
 ·rw [e] at h
  simp only at h
  cases h; simp [Er.num]
theorem rptr_some_eq (b : Nat) (w : World) : (binOp .eql 34 (.pointer (some ⟨b, 0, none⟩)) (.pointer none)).run Tryz.prog w = .ok (.bool false) w := by kernel_rfl
set_option maxRecDepth 100000 in
set_option maxHeartbeats 4000000 in
theorem law_any (B : Nat) (Ea E : Addr) (v : Value) (ns : List Nv) (clk rm : Int) (pv : Value) (L : List Prw) (dirs name : ByteArray) (w : World) (h : Nodes w v ns) (hG : Gl B w Ea E) (hX : Arw w) (hB : B ≤ w.heap.size) (hB12 : 9 < B)
  (hlim : ∀ n ∈ ns, Lim n) (hml : ns.length ≤ 140737488355328) (hP : PaAt w pv L) (hPl : L.length ≤ 140737488355328) (hPs : ∀ p ∈ L, p.1.size ≤ 140737488355328 ∧ p.2.size ≤ 140737488355328) (hds : dirs.size ≤ 140737488355328) (hns : name.size ≤ 140737488355328) :
  Calls Tryz.prog 3 #[.agg #[v, .int .i64 clk, .int .i64 rm], pv, .string dirs, .string name] w fun r w' => r = .returned (.bool true) ∧ Below w.heap.size w w' := by
 obtain ⟨va, vc, rfl⟩ := h.len
 obtain ⟨pa, pc, rfl, hpc, hpa0, hpat⟩ := hP
 have hb0 : Below w.heap.size w (w.alloc (.cells #[.slice va ns.length vc, .int .i64 clk, .int .i64 rm] 24)) := (Below.refl _ _).alloc (Nat.le_refl _) _
 have z0 := World.alloc_heap_new w (.cells #[.slice va ns.length vc, .int .i64 clk, .int .i64 rm] 24)
 obtain ⟨w0, hw0⟩ : ∃ w0, w0 = w.alloc (.cells #[.slice va ns.length vc, .int .i64 clk, .int .i64 rm] 24) := ⟨_, rfl⟩
 have hs0 : w0.heap.size = w.heap.size + 1 := by rw [hw0]; simp
 rw [← hw0] at hb0 z0
 have qa := alive_any B Ea E w0 (hG.keep (hb0.mono hB)) (Nat.le_trans hB hb0.size)
 have HPA := hide' hpat
 have HPA0 := hide' hpa0
 have HPC := hide' hpc
 have HPS := hide' hPs
 clear hpat hPs hpa0 hpc
 go_enter Tryz.func3, Tryz.ntmps3
 go_wp2_with fail
 rw [← hw0]
 refine qa.mono ?_
 rintro r w1 ⟨rfl, hb1⟩
 have hB1 : Below w.heap.size w w1 := hb0.trans (hb1.mono hb0.size)
 have hs1 := hb1.size
 clear qa hw0
 have z1 := (hb1.block w.heap.size (by omega)).trans z0
 have t0 : w1.cell? ⟨w.heap.size, 0, none⟩ = some (.slice va ns.length vc) := by rw [Lib.cell_of_heap z1]; rfl
 have t1 : w1.cell? ⟨w.heap.size, 1, none⟩ = some (.int .i64 clk) := by rw [Lib.cell_of_heap z1]; rfl
 have t2 : w1.cell? ⟨w.heap.size, 2, none⟩ = some (.int .i64 rm) := by rw [Lib.cell_of_heap z1]; rfl
 have qb := Big_any _ ns clk rm w1 (h.below hB1) hlim hml
 go_wp2_with fail
 refine qb.mono ?_
 rintro r w2 ⟨⟨b2, rfl, hb2t⟩, hb2⟩
 have hB2 : Below w.heap.size w w2 := hB1.trans (hb2.mono hB1.size)
 have hs2 := hb2.size
 have z2 := (hb2.block w.heap.size (by omega)).trans z1
 clear qb t0 t1 t2
 cases b2 with
 | true =>
  go_wp2
  go_ret
  exact ⟨rfl, hB2⟩
 | false =>
  obtain ⟨hnl, hnsm⟩ := hb2t rfl
  clear hb2t
  by_cases c1 : (50 : Int) < L.length
  ·go_wp2
   go_ret
   exact ⟨rfl, hB2⟩
  by_cases c2 : (1000 : Int) < dirs.size
  ·go_wp2
   go_ret
   exact ⟨rfl, hB2⟩
  by_cases c3 : (1000 : Int) < name.size
  ·go_wp2
   go_ret
   exact ⟨rfl, hB2⟩
  go_wp2
  go_loopw [11] (fun i wr => ∃ k : Nat, k ≤ L.length ∧ i = .int .i64 k ∧ Below w2.heap.size w2 wr ∧ Hid (∀ p ∈ L.take k, p.1.size ≤ 1000 ∧ p.2.size ≤ 1000)) (fun i _ => L.length - (intOf i).toNat)
  case atStart => exact ⟨0, Nat.zero_le _, rfl, Below.refl _ _, fun p hp => by simp at hp⟩
  case round =>
   obtain ⟨k, hk, rfl, hBk, HK⟩ := hrel
   by_cases hlt : k < L.length
   ·obtain ⟨x, hx⟩ : ∃ x, L[k]? = some x := ⟨_, List.getElem?_eq_getElem hlt⟩
    obtain ⟨b, off, rfl, hbs, d1, d2⟩ := HPA.out k x hx
    have hB9 := hB2.trans (hBk.mono hB2.size)
    have e1 := (hB9.cell (p := ⟨b, _, none⟩) hbs).trans d1
    have e2 := (hB9.cell (p := ⟨b, _, none⟩) hbs).trans d2
    obtain ⟨x1, x2⟩ := x
    have hxs : x1.size ≤ 140737488355328 ∧ x2.size ≤ 140737488355328 := HPS.out _ (List.mem_of_getElem? hx)
    obtain ⟨hx1, hx2⟩ := hxs
    have hw : IntKind.i64.wrap ((x1.size : Int) + x2.size) = (x1.size : Int) + x2.size := by rw [IntKind.wrap_i64]; omega
    have hpl : L.length ≤ 50 := by omega
    simp only at e1 e2
    by_cases c4 : (1000 : Int) < (x1.size : Int) + x2.size
    ·clear hx d1 d2
     go_wp2
     go_quiet (fail)
     go_wp2
     go_ret
     exact ⟨rfl, hB9.trans (below_drewn _)⟩
    ·have HK2 : Hid (∀ p ∈ L.take (k + 1), p.1.size ≤ 1000 ∧ p.2.size ≤ 1000) := by
      show ∀ p ∈ L.take (k + 1), _
      intro p hp
      rw [List.take_add_one, hx] at hp
      rcases List.mem_append.1 hp with hp | hp
      ·exact HK.out p hp
      ·obtain rfl : p = (x1, x2) := by simpa using hp
       constructor <;> simp only <;> omega
     clear hx d1 d2
     go_wp2
     go_quiet (fail)
     go_wp2
     exact ⟨⟨k + 1, by omega, by go_num, hBk.trans (below_drewn _), HK2⟩, by simp [intOf]; omega⟩
   ·have hkl : k = L.length := by omega
    have HS : Hid (∀ p ∈ L, p.1.size ≤ 1000 ∧ p.2.size ≤ 1000) := by
     show ∀ p ∈ L, _
     have := HK.out
     rw [hkl, List.take_length] at this
     exact this
    have hB9 := hB2.trans (hBk.mono hB2.size)
    have hs9 := hB9.size
    have z9 := (hBk.block w.heap.size (by omega)).trans z2
    have t0 : wr.cell? ⟨w.heap.size, 0, none⟩ = some (.slice va ns.length vc) := by rw [Lib.cell_of_heap z9]; rfl
    have t1 : wr.cell? ⟨w.heap.size, 1, none⟩ = some (.int .i64 clk) := by rw [Lib.cell_of_heap z9]; rfl
    have t2 : wr.cell? ⟨w.heap.size, 2, none⟩ = some (.int .i64 rm) := by rw [Lib.cell_of_heap z9]; rfl
    have hps : ∀ n ∈ ns, n.path.length ≤ 300000 := fun n hn => (hnsm n hn).1
    have qn := New_any B E _ ns clk rm wr (h.below hB9) (hG.glo.keep (hB9.mono hB)) (Nat.le_trans hB hs9) (fun n hn => Nat.le_trans (hps n hn) (by decide))
    have qr := fun W (hW : Below w.heap.size w W) => rnew_any _ ns clk rm W (h.below hW) hps
    subst hkl
    clear HK hBk z2 hs2 hB2
    go_wp2_with fail
    refine qn.mono ?_
    rintro r w4 ⟨hb4, hnew⟩
    have hB4 := hB9.trans (hb4.mono hs9)
    have z4 := (hb4.block w.heap.size (by have := lt_of_block z9; exact this)).trans z9
    have u0 : w4.cell? ⟨w.heap.size, 0, none⟩ = some (.slice va ns.length vc) := by rw [Lib.cell_of_heap z4]; rfl
    have u1 : w4.cell? ⟨w.heap.size, 1, none⟩ = some (.int .i64 clk) := by rw [Lib.cell_of_heap z4]; rfl
    have u2 : w4.cell? ⟨w.heap.size, 2, none⟩ = some (.int .i64 rm) := by rw [Lib.cell_of_heap z4]; rfl
    have q4 := qr _ hB4
    clear qn qr t0 t1 t2
    cases hN : newR ns clk rm with
    | inl k =>
     rw [hN] at hnew q4
     have hk0 := newR_num hN
     simp only at hnew
     subst hnew
     have hkc : ¬ (k.num : Int) = 0 := by omega
     have hkd : ((k.num : Int) == 0) = false := beq_eq_false_iff_ne.2 hkc
     clear hN
     go_wp2_with fail
     refine q4.mono ?_
     rintro r w5 ⟨hb5, hr5⟩
     simp only at hr5
     subst hr5
     have hB5 := hB4.trans (hb5.mono hB4.size)
     clear q4
     go_wp2_with (go_at_call 9; refine (num_any _ _).mono ?_; rintro r w8 ⟨rfl, rfl⟩)
     have hkn : ((k.num : Int) != 0) = true := by simpa using hk0
     refine bodyPost_ret (by simp [results, Tryz.results3, go_sem, hkn]; rfl) rfl ?_
     exact ⟨rfl, hB5⟩
    | inr T =>
     rw [hN] at hnew q4
     obtain ⟨G, rfl, hF4⟩ := hnew
     obtain ⟨hT, hgd, _, _, hlr⟩ := new_inr hN
     have hnil := rptr_some_eq
     clear hN
     go_wp2_with fail
     refine q4.mono ?_
     rintro r w5 ⟨hb5, R, rv, ms, rfl, hRs, hRb, hms, hme⟩
     have hB5 := hB4.trans (hb5.mono hB4.size)
     clear q4 u0 u1 u2
     obtain ⟨a', c', w6, hap, hprs, hb6⟩ := app_pairs (w := w5) (pa := pa) (pc := pc) (L := L) (by omega) (fun j x hx => by
      obtain ⟨b, off, e, h3, h4, h5⟩ := HPA.out j x hx
      exact ⟨b, off, e, Nat.lt_of_lt_of_le h3 hB5.size, (hB5.cell (p := ⟨b, _, none⟩) h3).trans h4, (hB5.cell (p := ⟨b, _, none⟩) h3).trans h5⟩) HPA0.out
     have HPRS := hide' hprs
     have HB6 := hide' hb6
     clear hprs hb6
     go_wp2_with (first | (go_at_call 9; refine (num_any _ _).mono ?_; rintro r w8 ⟨rfl, h8⟩; have h9 := h8.symm; clear h8; subst h9) | (at_builtin; refine wpList_app_run rfl _ _ 25 rfl _ _ _ _ rfl rfl hap ?_))
     obtain ⟨w7, hw7⟩ : ∃ W, W = w6.alloc (.cells (bsC a' L.length c') 43) := ⟨_, rfl⟩
     have hb67 : Below w6.heap.size w6 w7 := by rw [hw7]; exact (Below.refl _ _).alloc (Nat.le_refl _) _
     have hb57 : Below w5.heap.size w5 w7 := HB6.out.trans (hb67.mono HB6.out.size)
     have hB7 : Below w.heap.size w w7 := hB5.trans (hb57.mono hB5.size)
     have hbase : w7.heap[w6.heap.size]? = some (.cells (bsC a' L.length c') 43 (0, 0)) := by rw [hw7]; exact World.alloc_heap_new w6 _
     have hF7 : IsFs w7 (fun i => wr.heap.size ≤ i) G T clk rm := hF4.below (hb5.trans (hb57.mono hb5.size))
     have hp7 : Prs w7 a' L.length L := HPRS.out.lies (Lies.below hb67)
     have hlen5 : ns.length ≤ 1000 := by
      by_cases hx : ns.length ≤ 1000
      ·exact hx
      ·exfalso
       unfold lenR at hlr
       rw [if_pos (.inl (by omega))] at hlr
       cases hlr
     have hD : ∀ e ∈ T, e.2.data.length ≤ 65536 := fun e he => (hgd.dat e he).2
     have hD2 : ∀ e ∈ T, e.2.data.length ≤ 100000 := fun e he => Nat.le_trans (hD e he) (by decide)
     have hms2 : ms.length ≤ 1000 := by
      have h1 := congrArg List.length (hme.trans hT)
      rw [List.length_map, List.length_map] at h1
      omega
     have hDm : ∀ n ∈ ms, n.nd.data.length ≤ 65536 := fun n hn => hD (toE n) (by rw [← hme]; exact List.mem_map.2 ⟨n, hn, rfl⟩)
     have hsrt : Srt (ms.map toE) := by rw [hme]; exact hgd.srt
     have hdz : dirs.size ≤ 1000 := by omega
     have hnz : name.size ≤ 1000 := by omega
     have QB : ∀ W, Below w7.heap.size w7 W → Below w.heap.size w W ∧ B ≤ W.heap.size ∧ 9 < W.heap.size ∧ Gl B W Ea E ∧ Arw W := fun W hW => by
      have h1 := hB7.trans (hW.mono hB7.size)
      have h2 := h1.size
      exact ⟨h1, by omega, by omega, hG.keep (h1.mono hB), hX.keep (h1.mono hB) hB12⟩
     have QC : ∀ (s : ByteArray) W, s.size ≤ 400000 → Below w7.heap.size w7 W → Calls Tryz.prog 34 #[.pointer (some ⟨G, 0, none⟩), .string s] W fun e w' => ChV w' Ea e (tmP T (tl s)) ∧ Below W.heap.size W w' := fun s W hs hW => by
      obtain ⟨h1, h2, h3, h4, h5⟩ := QB W hW
      exact changed_any B G Ea E T clk rm s hs _ W (hF7.below hW) h4 h2 h5 h3 hD2
     have QT : ∀ W, Below w7.heap.size w7 W → Calls Tryz.prog 12 #[.pointer (some ⟨G, 0, none⟩), .string name] W fun e w' => e = .returned (.tuple #[.int .i64 ((tmP T (tl name)).getD 0), .bool (tmP T (tl name)).isSome]) ∧ Below W.heap.size W w' := fun W hW => by
      obtain ⟨h1, h2, h3, h4, h5⟩ := QB W hW
      exact Time_any B G Ea E T clk rm name (by omega) _ W (hF7.below hW) h4 h2 h5 h3 hD2
     have QR : ∀ (s : ByteArray) W, s.size ≤ 300000 → Below w7.heap.size w7 W → Calls Tryz.prog 13 #[.pointer (some ⟨R, 0, none⟩), .string s] W fun e w' => e = .returned (.tuple #[.int .i64 ((tmP T (tl s)).getD 0), .bool (tmP T (tl s)).isSome]) ∧ Below W.heap.size W w' := fun s W hs hW => by
      have h5W : Below w5.heap.size w5 W := hb57.trans (hW.mono hb57.size)
      have h1 := rtime_any R rv ms clk rm s W ((h5W.block R (lt_of_block hRb)).trans hRb) (hms.nodes.below h5W) hsrt hms2 hs hDm (fun p m e => lookN_bad0 e)
      rw [hme] at h1
      exact h1
     have HSS := HS.out
     have QF := Find_any B G Ea E a' L.length c' L name dirs (tmP T) (by omega) (by omega) (by omega) (fun p hp => by have := HSS p hp; omega) w7 (QB w7 (Below.refl _ _)).2.2.2.1 (QB w7 (Below.refl _ _)).2.1 hp7 (fun x w1 hx hb => QC x.1 w1 (by
      have h1 := plL_short L (tl name) (tl dirs) (by rw [tl_len]; omega) (by rw [tl_len]; omega) (fun p hp => by have := HSS p hp; omega) _ hx
      have h2 : (Tx.bytesOf x).length = x.1.size := tl_len x.1
      omega) hb)
     have QS : ∀ W, Below w7.heap.size w7 W → Calls Tryz.prog 11 #[.agg (bsC a' L.length c'), .string dirs, .pointer (some ⟨R, 0, none⟩), .string name] W fun e w' => e = .returned (.tuple #[.string (mk (fndP (tmP T) L (tl name) (tl dirs)).1), .bool (fndP (tmP T) L (tl name) (tl dirs)).2]) ∧ Below W.heap.size W w' := fun W hW =>
      rseek_any R a' L.length c' L name (tl dirs) (tmP T) (by omega) hnz (by rw [tl_len]; exact hdz) HSS W (hp7.lies (Lies.below hW)) (fun x w1 hx hb => QR x w1 hx (hW.trans (hb.mono hW.size)))
     have QQ : ∀ W, Below w7.heap.size w7 W → Calls Tryz.prog 17 #[.pointer (some ⟨G, 0, none⟩)] W fun r w' => (∃ v ks, r = .returned (.agg #[v, .int .i64 clk, .int .i64 rm]) ∧ NsAt w' W.heap.size v ks ∧ ks.map toE = T) ∧ Below W.heap.size W w' := fun W hW => Tree_any G T clk rm _ W (hF7.below hW)
     have QP := fun W => Split_any name (by omega) W
     have QM := fun W => rmember_any name (by omega) W
     have hbs : ∀ W, Below w7.heap.size w7 W → W.heap[w6.heap.size]? = some (.cells (bsC a' L.length c') 43 (0, 0)) := fun W hW => (hW.block _ (lt_of_block hbase)).trans hbase
     have hzs : ∀ W, Below w7.heap.size w7 W → W.heap[w.heap.size]? = some (.cells #[.slice va ns.length vc, .int .i64 clk, .int .i64 rm] 24 (0, 0)) := fun W hW => by
      have h1 := (hb5.trans (hb57.mono hb5.size)).block w.heap.size (lt_of_block z4)
      exact (hW.block _ (lt_of_block (h1.trans z4))).trans (h1.trans z4)
     have hN7 : Nodes w7 (.slice va ns.length vc) ns := h.below hB7
     have QE : ∀ W v ks, Below w7.heap.size w7 W → NsAt W (0 : Nat) v ks ∨ (∃ b0, NsAt W b0 v ks) → ks.map toE = T → Calls Tryz.prog 16 #[.agg #[v, .int .i64 clk, .int .i64 rm], .agg #[.slice va ns.length vc, .int .i64 clk, .int .i64 rm]] W fun r w' => r = .returned (.bool true) ∧ Below W.heap.size W w' := fun W v ks hW hk he => by
      have hkn : Nodes W v ks := by rcases hk with hk | ⟨b0, hk⟩ <;> exact hk.nodes
      refine (Same_any v _ ks ns clk rm clk rm W hkn (hN7.below hW) (by omega)).mono ?_
      rintro r w' ⟨⟨b, rfl, hb⟩, hbw⟩
      obtain rfl : b = true := hb.2 ⟨rfl, rfl, he.trans hT⟩
      exact ⟨rfl, hbw⟩
     have QN := fun W hW => QR name W (by omega) hW
     generalize mk (fndP (tmP T) L (tl name) (tl dirs)).1 = FS at QF QS
     generalize (fndP (tmP T) L (tl name) (tl dirs)).2 = FB at QF QS
     generalize (tmP T (tl name)).getD 0 = XV at QT QN
     generalize (tmP T (tl name)).isSome = XB at QT QN
     unfold prV at QP QM
     generalize mk (pA (tl name)) = PA at QP QM
     generalize mk (pM (tl name)) = PM at QP QM
     generalize isM (tl name) = PB at QP QM
     have HB7 := hide' hB7
     clear QC QR QB hp7 hF7 hD hD2 hDm hsrt hms hme hRb HSS hT hgd hN7 hbase hb67 hb57 hF4 HPRS hap HB6 hlr h hG hX hps hnsm z4 z9 z0 z1 hb0 hb1 hb2 hb4 hb5 hB1 hB4 hB5 hB9
     rw [← hw7]
     clear hw7
     refine QF.mono ?_
     rintro e w8 ⟨rfl, hb8⟩
     clear QF
     have c0 : w8.cell? ⟨w6.heap.size, 0, none⟩ = some (.slice none 0 0) := by rw [Lib.cell_of_heap (hbs w8 hb8)]; rfl
     have c1' : w8.cell? ⟨w6.heap.size, 1, none⟩ = some (.slice none 0 0) := by rw [Lib.cell_of_heap (hbs w8 hb8)]; rfl
     have c2' : w8.cell? ⟨w6.heap.size, 2, none⟩ = some (.slice a' L.length c') := by rw [Lib.cell_of_heap (hbs w8 hb8)]; rfl
     have c3' : w8.cell? ⟨w6.heap.size, 3, none⟩ = some (.slice none 0 0) := by rw [Lib.cell_of_heap (hbs w8 hb8)]; rfl
     have c4 : w8.cell? ⟨w6.heap.size, 4, none⟩ = some (.slice none 0 0) := by rw [Lib.cell_of_heap (hbs w8 hb8)]; rfl
     have c5 : w8.cell? ⟨w6.heap.size, 5, none⟩ = some (.string ⟨#[]⟩) := by rw [Lib.cell_of_heap (hbs w8 hb8)]; rfl
     have c6 : w8.cell? ⟨w6.heap.size, 6, none⟩ = some (.slice none 0 0) := by rw [Lib.cell_of_heap (hbs w8 hb8)]; rfl
     have q9 := QS w8 hb8
     go_wp2_with fail
     refine q9.mono ?_
     rintro e w9 ⟨rfl, hb9'⟩
     have hb9 := hb8.trans (hb9'.mono hb8.size)
     have q10 := QT w9 hb9
     clear q9 QS c0 c1' c2' c3' c4 c5 c6 hb9' hbs
     go_wp2_with fail
     refine q10.mono ?_
     rintro e w10 ⟨rfl, hb10'⟩
     have hb10 := hb9.trans (hb10'.mono hb9.size)
     have q11 := QN w10 hb10
     clear q10 QT hb10'
     go_wp2_with fail
     refine q11.mono ?_
     rintro e w11 ⟨rfl, hb11'⟩
     have hb11 := hb10.trans (hb11'.mono hb10.size)
     have q12 := QP w11
     clear q11 QN hb11' QP
     go_wp2_with fail
     refine q12.mono ?_
     rintro e w12 ⟨rfl, hb12'⟩
     have hb12 := hb11.trans (hb12'.mono hb11.size)
     have q13 := QM w12
     clear q12 QM hb12'
     go_wp2_with fail
     refine q13.mono ?_
     rintro e w13 ⟨rfl, hb13'⟩
     have hb13 := hb12.trans (hb13'.mono hb12.size)
     have q14 := QQ w13 hb13
     have z13 := hzs w13 hb13
     have u0 : w13.cell? ⟨w.heap.size, 0, none⟩ = some (.slice va ns.length vc) := by rw [Lib.cell_of_heap z13]; rfl
     have u1 : w13.cell? ⟨w.heap.size, 1, none⟩ = some (.int .i64 clk) := by rw [Lib.cell_of_heap z13]; rfl
     have u2 : w13.cell? ⟨w.heap.size, 2, none⟩ = some (.int .i64 rm) := by rw [Lib.cell_of_heap z13]; rfl
     have QQ2 : ∀ W, Below w7.heap.size w7 W → Calls Tryz.prog 17 #[.pointer (some ⟨G, 0, none⟩)] W fun r w' => ∃ v ks, r = .returned (.agg #[v, .int .i64 clk, .int .i64 rm]) ∧ (∃ b0, NsAt w' b0 v ks) ∧ ks.map toE = T ∧ Below w7.heap.size w7 w' ∧ w'.cell? ⟨w.heap.size, 0, none⟩ = some (.slice va ns.length vc) ∧ w'.cell? ⟨w.heap.size, 1, none⟩ = some (.int .i64 clk) ∧ w'.cell? ⟨w.heap.size, 2, none⟩ = some (.int .i64 rm) := fun W hW => (QQ W hW).mono fun r w' h => by
      obtain ⟨⟨v, ks, h1, h2, h3⟩, h4⟩ := h
      have h5 := hW.trans (h4.mono hW.size)
      have z := hzs w' h5
      exact ⟨v, ks, h1, ⟨_, h2⟩, h3, h5, by rw [Lib.cell_of_heap z]; rfl, by rw [Lib.cell_of_heap z]; rfl, by rw [Lib.cell_of_heap z]; rfl⟩
     clear q13 hb13' QQ q14 hb8 hb9 hb10 hb11 hb12 z13 hzs
     go_wp2_with fail
     go_region_with (first | (go_at_call 17; refine (QQ2 _ (by first | exact hb13 | exact hb13.trans (below_drewn _))).mono ?_; rintro e w14 ⟨tv, ks, rfl, hks, hke, hb14, v0, v1, v2⟩) | (go_at_call 16; refine (QE _ _ _ (by first | exact hb14 | exact hb14.trans (below_drewn _)) (.inr hks) hke).mono ?_; rintro e w15 ⟨rfl, hb15⟩))
     all_goals
      have hfin : Below w.heap.size w w15 := HB7.out.trans ((hb14.trans (by first | exact hb15.mono hb14.size | exact ((below_drewn _).trans (hb15.mono (below_drewn (B := 0) _).size)).mono hb14.size)).mono HB7.out.size)
      clear QQ2 QE
      simp only [Exit.then]
      cases XB
      all_goals
       go_wp2
       refine bodyPost_ret (by simp [results, Tryz.results3, go_sem]; rfl) rfl ?_
       exact ⟨rfl, by first | exact hfin | exact hfin.trans (below_drewn _)⟩
end Go.Proofs.YtabmnkddmdffkaaGreatDoor.Sk
