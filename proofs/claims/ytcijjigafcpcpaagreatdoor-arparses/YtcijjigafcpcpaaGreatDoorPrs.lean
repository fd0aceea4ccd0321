/- The walk of the law ArParses. -/
import Derived.Test.YtcijjigafcpcpaaGreatDoorBack
import Derived.Test.YtcijjigafcpcpaaGreatDoorRm
import Derived.Test.YtcijjigafcpcpaaGreatDoorArc
namespace Go.Proofs.YtcijjigafcpcpaaGreatDoor
open Go.RowKit Go.Maps Go.Shelf

theorem qArch (v : Value) (ms : List Mv) (w : World) (hM : Mems w v ms) (hl : ms.length ≤ 5001) (h : ∀ m ∈ ms, m.name.length ≤ 70000 ∧ m.data.length ≤ 70000) : Calls Tryz.prog 13 #[v] w fun r w' => Below w.heap.size w w' ∧ ((wrongR ms = 0 ∧ ∃ v, r = .returned (.tuple #[v, .int .i64 0]) ∧ Rds w' v (archB ms)) ∨ (wrongR ms ≠ 0 ∧ r = .returned (.tuple #[.slice none 0 0, .int .i64 (wrongR ms : Nat)]))) := by
  have hw : ∀ m ∈ ms, wtB m ≤ 140001 := fun m hm => by have := h m hm; unfold wtB; omega
  have hs : ∀ l : List Mv, (∀ m ∈ l, wtB m ≤ 140001) → sumM wtB l ≤ 140001 * l.length := by
    intro l
    induction l with
    | nil => intro _; simp [sumM]
    | cons m r ih =>
      intro h
      have h1 := h m (List.mem_cons_self ..)
      have := ih fun n hn => h n (List.mem_cons_of_mem _ hn)
      simp only [sumM, List.length_cons]
      omega
  exact arch_big v ms w hM (by have := hs ms hw; omega) (fun m hm => by have := hw m hm; omega)
/-- what both tell of bytes: a list and no number, or no list and the number -/
def PK (bs : Bs) (ms : List Mv) (k : Nat) : Prop :=
  (k = 0 ∧ wrongR ms = 0 ∧ archB ms = bs) ∨ (ms = [] ∧ (k = 2 ∧ 65536 < bs.length ∨ k = 20 ∧ ¬ 65536 < bs.length) ∧ ∀ ns, wrongR ns = 0 → archB ns ≠ bs)
theorem pk_one {bs : Bs} {ms ns : List Mv} {k j : Nat} (h : PK bs ms k) (h' : PK bs ns j) : k = j ∧ ms.map toE = ns.map toE := by
  rcases h with ⟨rfl, h1, h2⟩ | ⟨rfl, h1, h2⟩
  · rcases h' with ⟨rfl, h3, h4⟩ | ⟨rfl, h3, h4⟩
    · refine ⟨rfl, ?_⟩
      have e1 := (arch_scan h1 h2).1
      have e2 := (arch_scan h3 h4).1
      rw [e1] at e2
      exact Option.some.inj e2
    · exact absurd h2 (h4 ms h1)
  · rcases h' with ⟨rfl, h3, h4⟩ | ⟨rfl, h3, h4⟩
    · exact absurd h4 (h2 ns h3)
    · exact ⟨by omega, rfl⟩
theorem pk_small {bs : Bs} {ms : List Mv} {k : Nat} (h : PK bs ms k) : ms.length ≤ 5000 ∧ ∀ m ∈ ms, m.data.length ≤ 1000000 := by
  rcases h with ⟨_, h1, _⟩ | ⟨rfl, _, _⟩
  · obtain ⟨h2, h3, _⟩ := wrong_zero h1
    refine ⟨h2, fun m hm => ?_⟩
    have h4 := sumM_mem wtD hm
    unfold lenA at h3
    have h5 : m.data.length ≤ wtD m := by unfold wtD evn; omega
    omega
  · exact ⟨by simp, fun m hm => by cases hm⟩
/-- Parse's answer, in one form -/
def PsU (B : Nat) (bs : Bs) (w' : World) (r : Ending) : Prop := ∃ va vc ms, ∃ k : Nat, r = .returned (.tuple #[.slice va ms.length vc, .int .i64 k]) ∧ MsAt w' B (.slice va ms.length vc) ms ∧ PK bs ms k
theorem psU {B : Nat} {bs : Bs} {w' : World} {r : Ending} (h : PsR B bs w' r) : PsU B bs w' r := by
  rcases h with ⟨v, ms, rfl, hms, h1, h2, _⟩ | ⟨k, rfl, hk, hno⟩
  · obtain ⟨va, vc, hv⟩ := hms.mems.len
    subst hv
    exact ⟨va, vc, ms, 0, rfl, hms, .inl ⟨rfl, h1, h2⟩⟩
  · exact ⟨none, 0, [], k, rfl, MsAt.nil _ _, .inr ⟨rfl, hk, hno⟩⟩
def RmU (bs : Bs) (w' : World) (r : Ending) : Prop := ∃ va vc ms, ∃ k : Nat, r = .returned (.tuple #[.slice va ms.length vc, .int .i64 k]) ∧ Mems w' (.slice va ms.length vc) ms ∧ PK bs ms k
theorem rmU {bs : Bs} {w' : World} {r : Ending} (h : RmR bs w' r) : RmU bs w' r := by
  rcases h with ⟨v, ms, rfl, hms, h1, h2⟩ | ⟨k, rfl, hk, hno⟩
  · obtain ⟨va, vc, hv⟩ := hms.len
    subst hv
    exact ⟨va, vc, ms, 0, rfl, hms, .inl ⟨rfl, h1, h2⟩⟩
  · exact ⟨none, 0, [], k, rfl, .inl ⟨⟨_, _, rfl⟩, rfl⟩, .inr ⟨rfl, hk, hno⟩⟩
theorem MsAt.turn {S : Nat → Prop} {w w' : World} {b0 : Nat} {v : Value} {ns : List Mv} (h : MsAt w b0 v ns) (ht : Turn S w w') (hS : ∀ i, S i → i < b0) : MsAt w' b0 v ns := by
  have hk : ∀ g, b0 ≤ g → g < w.heap.size → w'.heap[g]? = w.heap[g]? := fun g h1 h2 => ht.block g h2 fun hs => by have := hS g hs; omega
  refine ⟨?_, fun n hn => (h.dat n hn).kept fun g hg => hk g (h.hi n hn g hg) ((h.dat n hn).lt g hg), h.hi⟩
  rcases h.row with h1 | ⟨g, cap, cur, rfl, h2, hg, r⟩
  · exact .inl h1
  · exact .inr ⟨g, cap, cur, rfl, h2, (hk g h2 (lt_of_block hg)).trans hg, r⟩
/-- a row of members that may be written over -/
def MsB (w : World) (S : Nat → Prop) (v : Value) : Prop :=
  v = .slice none 0 0 ∨ ∃ g n cap cur, v = .slice (some ⟨g, 0, none⟩) n cap ∧ S g ∧ w.heap[g]? = some (.cells cur 37 (0, 0)) ∧ n ≤ 1000000 ∧ ∀ i, i < n → i * 3 + 2 < cur.size ∧ ∃ dv, cur[i * 3 + 2]? = some dv ∧ DatB w S dv
theorem MsAt.msB {w : World} {b0 : Nat} {v : Value} {ns : List Mv} (h : MsAt w b0 v ns) (hl : ns.length ≤ 1000000) (hd : ∀ m ∈ ns, m.data.length ≤ 1000000) : MsB w (fun g => b0 ≤ g) v := by
  rcases h.row with ⟨rfl, _⟩ | ⟨g, cap, cur, rfl, h2, hg, h3, h4, h5⟩
  · exact .inl rfl
  · refine .inr ⟨g, _, cap, cur, rfl, h2, hg, hl, fun i hi => ?_⟩
    have hm : ns[i]? = some ns[i] := List.getElem?_eq_getElem hi
    have hc := cell_row hg h5 (r := 2) hm (by omega) rfl
    rw [Lib.cell_of_heap hg] at hc
    have hmem := List.mem_of_getElem? hm
    exact ⟨(Array.getElem?_eq_some_iff.1 hc).1, _, hc, (h.dat _ hmem).datB (fun g hg => h.hi _ hmem g hg) (hd _ hmem)⟩
theorem MsB.len {w : World} {S : Nat → Prop} {v : Value} (h : MsB w S v) : ∃ a n cap, v = .slice a n cap ∧ n ≤ 1000000 := by
  rcases h with rfl | ⟨g, n, cap, cur, rfl, _, _, h, _⟩
  · exact ⟨_, _, _, rfl, by omega⟩
  · exact ⟨_, _, _, rfl, h⟩
theorem MsB.byte {w : World} {S : Nat → Prop} {v : Value} (h : MsB w S v) {g k : Nat} {x : UInt8} {cur' : Array Value} (hg : w.heap[g]? = some (.cells cur' 5 (0, 0))) : MsB (w.setCell ⟨g, k, none⟩ (.int .u8 (x.toNat : Nat))) S v := by
  rcases h with h | ⟨g', n, cap, cur, rfl, h1, h2, h3, h4⟩
  · exact .inl h
  · have e : g' ≠ g := fun e => by rw [e, hg] at h2; simp at h2
    refine .inr ⟨g', n, cap, cur, rfl, h1, (Below.heap_setCell w ⟨g, k, none⟩ _ g' (by simpa using e)).trans h2, h3, fun i hi => ?_⟩
    obtain ⟨h5, dv, h6, h7⟩ := h4 i hi
    exact ⟨h5, dv, h6, h7.set⟩
theorem MsB.name {w : World} {S : Nat → Prop} {g n cap i : Nat} {u : Value} (h : MsB w S (.slice (some ⟨g, 0, none⟩) n cap)) : MsB (w.setCell ⟨g, i * 3, none⟩ u) S (.slice (some ⟨g, 0, none⟩) n cap) := by
  rcases h with h | ⟨g', n', cap', cur, e, h1, h2, h3, h4⟩
  · cases h
  · cases e
    refine .inr ⟨g, n, cap, _, rfl, h1, set_row h2 (i * 3) u, h3, fun j hj => ?_⟩
    obtain ⟨h5, dv, h6, h7⟩ := h4 j hj
    have hk : ∀ (g' : Nat) (cur' : Array Value), w.heap[g']? = some (Obj.cells cur' 5 (0, 0)) → (w.setCell ⟨g, i * 3, none⟩ u).heap[g']? = w.heap[g']? := fun g' cur' hg' => Below.heap_setCell w ⟨g, i * 3, none⟩ _ g' fun e => by
      have e' : g' = g := by simpa using e
      rw [e', h2] at hg'
      simp at hg'
    refine ⟨by simpa using h5, dv, ?_, h7.kept hk⟩
    rw [Array.getElem?_setIfInBounds_ne (by omega)]
    exact h6
theorem cut_tbs {w : World} {g n cap : Nat} {bs : Bs} (h : Dat w (.slice (some ⟨g, 0, none⟩) (n + 1) cap) (bs ++ [167])) (hn : n = bs.length) : Tbs w (.slice (some ⟨g, 0, none⟩) n cap) bs := by
  subst hn
  have hr := h.rds
  rcases h with ⟨e, _⟩ | ⟨g', cap', cur, e, h1, h2, _⟩
  · cases e
  · rcases hr with ⟨e2, _⟩ | ⟨a, c, e2, h3, h4⟩
    · cases e2
    · have ec := e
      injection e with ea en ec
      injection e2 with ea2 en2 ec2
      cases Option.some.inj ea2
      simp only [List.length_append, List.length_cons, List.length_nil] at h2 en
      refine .inr ⟨_, _, _, rfl, rfl, by omega, .inr ⟨_, _, rfl, fun _ => h3 (by simp), fun j u hj => h4 j u ?_⟩⟩
      rw [Lib.byteCells_append, List.getElem?_append_left (by have := (List.getElem?_eq_some_iff.1 hj).1; exact this)]
      exact hj
theorem last_cell {w : World} {g n cap : Nat} {bs : Bs} (h : Dat w (.slice (some ⟨g, 0, none⟩) (n + 1) cap) (bs ++ [167])) (hn : n = bs.length) : w.cell? ⟨g, n, none⟩ = some (.int .u8 167) := by
  subst hn
  rcases h.rds with ⟨e2, _⟩ | ⟨a, c, e2, h3, h4⟩
  · cases e2
  · injection e2 with ea2 en2 ec2
    cases Option.some.inj ea2
    have := h4 bs.length (.int .u8 167) (by
      rw [Lib.byteCells_append, List.getElem?_append_right (by rw [Lib.byteCells_length]; exact Nat.le_refl _), Lib.byteCells_length, Nat.sub_self]
      rfl)
    rwa [add_zero] at this
set_option maxRecDepth 100000 in
set_option maxHeartbeats 8000000 in
theorem prs_any' (ba : Option Addr) (bn bc : Nat) (bs : Bs) (oa : Option Addr) (on oc : Nat) (os : Bs) (w : World) (hE : Env w) (hS : EvS w) (hX : Mx w) (h3 : 3 < w.heap.size) (hT : Tbs w (.slice ba bn bc) bs) (hbn : bn = bs.length) (hO : Tbs w (.slice oa on oc) os) (hon : on = os.length) :
    Calls Tryz.prog 4 #[.slice ba bn bc, .slice oa on oc] w fun r w' => r = .returned (.bool true) ∧ Below w.heap.size w w' := by
  have qa := alive_any w hE (by omega)
  have HBN := hide' (And.intro hbn hon)
  clear hbn hon
  go_enter Tryz.func4, Tryz.ntmps4
  go_wp2_with fail
  refine qa.mono ?_
  rintro r w1 ⟨rfl, hb1⟩
  clear qa
  have hs1 := hb1.size
  dsimp only
  by_cases hlong : 70000 < bn
  · have g1 : (70000 : Int) < (bn : Int) := by omega
    clear hE hS hX hT hO
    go_wp2
    go_ret
    exact ⟨rfl, hb1⟩
  have g1 : ¬ (70000 : Int) < (bn : Int) := by omega
  by_cases hlong2 : 70000 < on
  · have g2 : (70000 : Int) < (on : Int) := by omega
    clear hE hS hX hT hO
    go_wp2
    go_ret
    exact ⟨rfl, hb1⟩
  have g2 : ¬ (70000 : Int) < (on : Int) := by omega
  have hr1 := (hT.below hb1).rds
  have HK := hide' (And.intro hT (And.intro hO (And.intro hE (And.intro hS (And.intro hX hb1)))))
  have hbl : bs.length ≤ 70000 := by have := HBN.out.1; omega
  clear hT hO hE hS hX hb1
  go_wp2_with (at_builtin; refine wpList_append_dat _ rfl _ _ rfl rfl rfl (Dat.nil _) hr1 (by simp; omega) ?_)
  intro v2 w2 hd2 _ hgr2 ho2
  have hd2 : Dat w2 v2 bs := hd2
  have hb2 : Below w1.heap.size w1 w2 := ⟨hgr2.os, hgr2.tape, hgr2.output, hgr2.size, fun b hb => hgr2.block b hb (by simp [Value.ownBlock])⟩
  have hlo2 : ∀ g, v2.ownBlock = some g → w1.heap.size ≤ g := fun g hg => by
    rcases ho2 with e | e
    · rw [hg] at e; cases e
    · rw [hg] at e; have := Option.some.inj e; omega
  have hs2 := hb2.size
  have hb3 : Below w2.heap.size w2 (w2.alloc (.cells #[.int .u8 167] 5)) := (Below.refl _ _).alloc (Nat.le_refl _) _
  have hd3 := hd2.kept fun g hg => hb3.block g (hd2.lt g hg)
  have hr3 := one_rds w2
  have hln : bs.length + 1 ≤ 1099511627776 := by omega
  have HJ := hide' (And.intro hlo2 (And.intro hb2 hb3))
  clear hlo2 hb2 hb3 hgr2 ho2 hr1 hd2
  go_wp2_with (at_builtin; refine wpList_append_dat _ rfl _ _ rfl rfl rfl hd3 hr3 hln ?_)
  intro v4 w4 hd4 _ hgr4 ho4
  obtain ⟨hlo2, hb2, hb3⟩ := HJ.out
  have hB4 : Below w1.heap.size w1 w4 := hb2.trans ((hb3.mono hs2).trans ⟨hgr4.os, hgr4.tape, hgr4.output, hgr4.size, fun b hb => hgr4.block b (by simp; omega) (fun e => by have := hlo2 b e.symm; omega)⟩)
  obtain ⟨g4, c4, cur4, hv4, hcur4, hl4⟩ : ∃ g cap cur, v4 = .slice (some ⟨g, 0, none⟩) (bn + 1) cap ∧ w4.heap[g]? = some (.cells cur 5 (0, 0)) ∧ bn + 1 ≤ cap := by
    have hlen : (bs ++ [167]).length = bn + 1 := by have := HBN.out.1; simp; omega
    rcases hd4 with ⟨_, e⟩ | ⟨g, cap, cur, e1, e2, e3, e4, e5, e6⟩
    · simp at e
    · rw [hlen] at e1 e3
      exact ⟨g, cap, cur, e1, e2, e3⟩
  subst hv4
  have hg4 : w1.heap.size ≤ g4 := by
    rcases ho4 with e | e
    · exact hlo2 g4 e.symm
    · have := Option.some.inj e
      simp at this
      omega
  have hg4s := lt_of_block hcur4
  have hs4 := hB4.size
  have hle : (bn : Int) ≤ c4 := by omega
  obtain ⟨hT, hO, hE, hS, hX, hb1⟩ := HK.out
  have hBw4 := hb1.trans (hB4.mono hs1)
  have qp := Parse_any _ bs w4 (cut_tbs hd4 HBN.out.1) (by omega) (hE.keep hBw4 (by omega)) (hS.below hBw4 (by omega)) (hX.below hBw4 (by omega)) (by omega)
  have HL := hide' (And.intro hBw4 (And.intro hd4 hcur4))
  clear hlo2 hb2 hb3 hgr4 ho4 hT hO hE hS hX hb1 hB4 hBw4 hd4 hcur4 HJ hd3 hr3
  go_wp2_with fail
  refine qp.mono ?_
  rintro r w5 ⟨hb5, hps⟩
  clear qp
  obtain ⟨la, lc, ms, k5, hr5, hms5, hpk5⟩ := psU hps
  subst hr5
  have hs5 := hb5.size
  obtain ⟨hBw4, hd4, hcur4⟩ := HL.out
  have hd5 := hd4.kept fun g hg => hb5.block g (hd4.lt g hg)
  have hcur5 := (hb5.block g4 hg4s).trans hcur4
  have hBw5 := hBw4.trans (hb5.mono (by omega))
  have hx5 := last_cell hd5 HBN.out.1
  have hra := (cut_tbs hd5 HBN.out.1).rds
  have hrb := (HK.out.1.below hBw5).rds
  have HM := hide' (And.intro hms5 (And.intro hpk5 (And.intro hBw5 (And.intro hd5 hcur5))))
  clear hps hms5 hpk5 hb5 hBw4 hd4 hcur4 hd5 hcur5 hBw5 HL
  dsimp only
  go_wp2_with fail
  refine wp_region_quiet_lit (by kernel_rfl) (by kernel_rfl) ?_
  repeat (go_big_quiet_step (fail))
  go_big_quiet_want
  refine quiet_conv _ rfl _ bs rfl (fun w hw => by obtain ⟨n, rfl⟩ := hw; exact rds_str (hra.below (below_drewn n))) ?_
  go_big_quiet_on
  go_simp
  repeat (go_big_quiet_step (fail))
  go_big_quiet_want
  refine quiet_conv _ rfl _ bs rfl (fun w hw => by obtain ⟨n, rfl⟩ := hw; exact rds_str (hrb.below (below_drewn n))) ?_
  go_big_quiet_on
  go_simp
  repeat (go_big_quiet_step (fail))
  refine wpQuiet_nil ?_
  intro nq
  obtain ⟨hms5, hpk5, hBw5, hd5, hcur5⟩ := HM.out
  obtain ⟨w6, hw6⟩ : ∃ w6, w6 = w5.drewN nq := ⟨_, rfl⟩
  have hb6 : Below w5.heap.size w5 w6 := by rw [hw6]; exact below_drewn nq
  have hs6 : w5.heap.size = w6.heap.size := by rw [hw6]; rfl
  try rw [← hw6]
  clear hw6
  have hms6 := hms5.below hb6
  have hBw6 := hBw5.trans (hb6.mono (by omega))
  have hDb : DatB w6 (fun g => g = g4) (.slice (some ⟨g4, 0, none⟩) (bn + 1) c4) := (hd5.kept fun g hg => hb6.block g (hd5.lt g hg)).datB (fun g hg => (Option.some.inj hg).symm) (by simp; omega)
  have HN := hide' (And.intro hms6 (And.intro hpk5 hBw6))
  clear hms5 hpk5 hBw5 hd5 hcur5 hb6 hms6 hBw6 hra hrb hx5 HM
  go_wp2_with fail
  go_loopw [10] (fun i wy => ∃ k : Nat, k ≤ bn + 1 ∧ i = .int .i64 k ∧ DatB wy (fun g => g = g4) (.slice (some ⟨g4, 0, none⟩) (bn + 1) c4) ∧ Turn (fun g => g = g4) w6 wy) (fun i _ => bn + 1 - (intOf i).toNat)
  case atStart => exact ⟨0, Nat.zero_le _, rfl, hDb, Turn.refl _ _⟩
  case round =>
    obtain ⟨k', hk, rfl, hDi, hTi⟩ := hrel
    by_cases hkl : k' < bn + 1
    · have k1 : (k' : Int) < (bn : Int) + 1 := by omega
      rcases hDi with e1 | ⟨g', n', cap', cur, e1, h1, h2, h3', h4⟩
      · cases e1
      · cases e1
        obtain ⟨x, hx⟩ := h4 k' hkl
        have c1 : wr.cell? ⟨g4, k', none⟩ = some (.int .u8 (x.toNat : Nat)) := by rw [Lib.cell_of_heap h2]; exact hx
        have f1 := Lib.frozen_of_heap h2 k'
        clear hDb
        go_wp2
        obtain ⟨y, hy⟩ := xor_byte x
        rw [hy]
        exact ⟨⟨k' + 1, by omega, by simp, DatB.set (S := fun g => g = g4) (.inr ⟨g4, bn + 1, c4, cur, rfl, h1, h2, h3', h4⟩), hTi.set h1 _ _⟩, by simp [intOf]; omega⟩
    · obtain rfl : k' = bn + 1 := by omega
      have k1 : ¬ ((bn + 1 : Nat) : Int) < (bn : Int) + 1 := by omega
      obtain ⟨w7, rfl⟩ : ∃ w7, w7 = wr := ⟨_, rfl⟩
      obtain ⟨hms6, hpk5, hBw6⟩ := HN.out
      have hs7 := hTi.size
      have hms7 := hms6.turn hTi (fun i hi => by rw [hi]; omega)
      have hBw7 : Below w.heap.size w w7 := hBw6.trans (hTi.below (by omega) (fun i hi => by rw [hi]; omega))
      obtain ⟨hT, hO, hE, hS, hX, _⟩ := HK.out
      have qp := Parse_any (.slice oa on oc) os w7 (hO.below hBw7) (by have := HBN.out.2; omega) (hE.keep hBw7 (by omega)) (hS.below hBw7 (by omega)) (hX.below hBw7 (by omega)) (by omega)
      have HQ := hide' (And.intro hms7 (And.intro hpk5 hBw7))
      clear hms6 hpk5 hBw6 hms7 hBw7 hT hO hE hS hX hDi hTi hDb HN
      go_wp2_with fail
      refine qp.mono ?_
      rintro r w8 ⟨hb8, hps⟩
      clear qp
      obtain ⟨oa', oc', ms', k8, hr8, hms8, hpk8⟩ := psU hps
      subst hr8
      have hs8 := hb8.size
      have hMB : MsB w8 (fun g => w7.heap.size ≤ g) (.slice oa' ms'.length oc') := hms8.msB (by have := (pk_small hpk8).1; omega) (pk_small hpk8).2
      have hln8 : ms'.length ≤ 1000000 := by have := (pk_small hpk8).1; omega
      obtain ⟨n8, hn8⟩ : ∃ n8, n8 = ms'.length := ⟨_, rfl⟩
      rw [← hn8] at hMB hln8 ⊢
      have HR := hide' hb8
      clear hps hms8 hpk8 hb8 hn8
      dsimp only
      go_wp2_with fail
      go_loopw [13, 14] (fun i _ wy => ∃ k : Nat, k ≤ n8 ∧ i = .int .i64 k ∧ MsB wy (fun g => w7.heap.size ≤ g) (.slice oa' n8 oc') ∧ Turn (fun g => w7.heap.size ≤ g) w8 wy) (fun i _ _ => n8 - (intOf i).toNat)
      case atStart => exact ⟨0, Nat.zero_le _, rfl, hMB, Turn.refl _ _⟩
      case round =>
        obtain ⟨k', hk, rfl, hMi, hTi⟩ := hrel
        by_cases hkl : k' < n8
        · have k1 : (k' : Int) < (n8 : Int) := by omega
          obtain ⟨wo, rfl⟩ : ∃ wo, wo = wr := ⟨_, rfl⟩
          rcases hMi with e1 | ⟨g', n', cap', cur, e1, h1, h2, h3', h4⟩
          · cases e1; omega
          · cases e1
            obtain ⟨h5, dv, h6, h7⟩ := h4 k' hkl
            obtain ⟨da, dn, dc, hdv, hdn⟩ := h7.len
            subst hdv
            have hMo : MsB wo (fun g => w7.heap.size ≤ g) (.slice (some ⟨g', 0, none⟩) n8 oc') := .inr ⟨g', n8, oc', cur, rfl, h1, h2, h3', h4⟩
            have HC := hide' h6
            clear h4 h5 h6 hMB
            go_wp2_with fail
            go_loopw [14] (fun j wy => ∃ q : Nat, q ≤ dn ∧ j = .int .i64 q ∧ MsB wy (fun g => w7.heap.size ≤ g) (.slice (some ⟨g', 0, none⟩) n8 oc') ∧ DatB wy (fun g => w7.heap.size ≤ g) (.slice da dn dc) ∧ wy.heap[g']? = some (.cells cur 37 (0, 0)) ∧ Turn (fun g => w7.heap.size ≤ g) w8 wy) (fun j _ => dn - (intOf j).toNat)
            case atStart => exact ⟨0, Nat.zero_le _, rfl, hMo, h7, h2, hTi⟩
            case round =>
              obtain ⟨q, hq, rfl, hMy, hDy, hgy, hTy⟩ := hrel
              have c2 : wr.cell? ⟨g', k' * 3 + 2, none⟩ = some (.slice da dn dc) := by rw [Lib.cell_of_heap hgy]; exact HC.out
              clear h2
              by_cases hql : q < dn
              · have k2 : (q : Int) < (dn : Int) := by omega
                have hDy' := hDy
                rcases hDy with e1 | ⟨gd, nd, capd, curd, e1, d1, d2, d3, d4⟩
                · cases e1; omega
                · cases e1
                  obtain ⟨x, hx⟩ := d4 q hql
                  have c1 : wr.cell? ⟨gd, q, none⟩ = some (.int .u8 (x.toNat : Nat)) := by rw [Lib.cell_of_heap d2]; exact hx
                  have f1 := Lib.frozen_of_heap d2 q
                  have hne : g' ≠ gd := fun e => by rw [e, d2] at hgy; simp at hgy
                  have hgz : ∀ u, (wr.setCell ⟨gd, q, none⟩ u).heap[g']? = some (.cells cur 37 (0, 0)) := fun u => (Below.heap_setCell wr ⟨gd, q, none⟩ u g' (by simpa using hne)).trans hgy
                  have HM := hide' (And.intro hMy (And.intro hDy' (And.intro hgz (And.intro hTy (And.intro d1 d2)))))
                  clear hMy hDy' hgz hTy d2 d4 hMo h7 hTi hgy hx
                  go_wp2
                  go_region
                  obtain ⟨hMy, hDy', hgz, hTy, d1, d2⟩ := HM.out
                  obtain ⟨y, hy⟩ := xor_byte x
                  rw [hy]
                  go_wp2
                  exact ⟨⟨q + 1, by omega, by simp, hMy.byte d2, hDy'.set, hgz _, (hTy.set d1 _ _).drew⟩, by simp [intOf]; omega⟩
              · obtain rfl : q = dn := by omega
                have k2 : ¬ (q : Int) < (q : Int) := by omega
                have f1 := Lib.frozen_of_heap hgy (k' * 3)
                have c0 : ∃ u, wr.cell? ⟨g', k' * 3, none⟩ = some u := by
                  rw [Lib.cell_of_heap hgy]
                  exact ⟨_, Array.getElem?_eq_getElem (by have := (Array.getElem?_eq_some_iff.1 HC.out).1; omega)⟩
                obtain ⟨u0, c0⟩ := c0
                have hM2 := hMy.name (i := k') (u := .string ⟨#[63]⟩)
                have hT2 := hTy.set h1 (k' * 3) (.string ⟨#[63]⟩)
                clear hMy hDy hgy hTy hMo h7 hTi
                go_wp2
                exact ⟨⟨k' + 1, by omega, by simp, hM2, hT2⟩, by simp [intOf]; omega⟩
        · obtain rfl : k' = n8 := by omega
          have k1 : ¬ (k' : Int) < (k' : Int) := by omega
          obtain ⟨hms7, hpk5, hBw7⟩ := HQ.out
          obtain ⟨w9, rfl⟩ : ∃ w9, w9 = wr := ⟨_, rfl⟩
          have hs9 := hTi.size
          have hB9 : Below w7.heap.size w7 w9 := HR.out.trans (hTi.below hs8 fun _ hi => hi)
          have hms9 := hms7.below hB9
          have hBw9 := hBw7.trans (hB9.mono (by omega))
          have qm := members_any' qArch ba bn bc bs w9 ((HK.out.1.below hBw9).rds) HBN.out.1 (by omega)
          have HS := hide' (And.intro hms9 (And.intro hpk5 hBw9))
          clear hms7 hpk5 hBw7 hTi hMi hMB hB9 hms9 hBw9
          go_wp2_with fail
          refine qm.mono ?_
          rintro r w10 ⟨hb10, hrm⟩
          clear qm
          obtain ⟨wa, wc, ns, k10, hr10, hns, hpk10⟩ := rmU hrm
          subst hr10
          obtain ⟨hms9, hpk5, hBw9⟩ := HS.out
          obtain ⟨hkk, hmm⟩ := pk_one hpk5 hpk10
          subst hkk
          have hs10 := hb10.size
          have hBw10 := hBw9.trans (hb10.mono (by have := hBw9.size; omega))
          have qs := Same_any _ _ ms ns w10 (hms9.mems.below hb10) hns (by have := (pk_small hpk10).1; omega)
          have qn := fun w => num_any k5 w
          have HU := hide' (And.intro hmm hBw10)
          clear hrm hns hpk10 hms9 hpk5 hBw9 hmm hBw10 hb10 HS
          dsimp only
          go_wp2_with (go_at_call 14; refine (qn _).mono ?_; rintro r w11 ⟨rfl, rfl⟩)
          refine qs.mono ?_
          rintro r w12 ⟨⟨b12, rfl, hb12t⟩, hb12⟩
          obtain ⟨hmm, hBw10⟩ := HU.out
          obtain rfl : b12 = true := hb12t.2 hmm
          have hBz := hBw10.trans (hb12.mono (by have := hBw10.size; omega))
          clear hb12t hb12 hmm hBw10 qs qn
          dsimp only
          go_wp2
          go_ret
          exact ⟨rfl, hBz⟩
/-- the law ArParses answers true -/
theorem prs_any (v0 v1 : Value) (bs os : Bs) (w : World) (hE : Env w) (hS : EvS w) (hX : Mx w) (h3 : 3 < w.heap.size) (hT : Tbs w v0 bs) (hO : Tbs w v1 os) :
    Calls Tryz.prog 4 #[v0, v1] w fun r w' => r = .returned (.bool true) ∧ Below w.heap.size w w' := by
  have hT' := hT
  have hO' := hO
  rcases hT with ⟨rfl, rfl⟩ | ⟨a, n, cap1, rfl, hn, _, _⟩
  · rcases hO with ⟨rfl, rfl⟩ | ⟨a, n, cap1, rfl, hn, _, _⟩
    · exact prs_any' none 0 0 [] none 0 0 [] w hE hS hX h3 hT' rfl hO' rfl
    · exact prs_any' none 0 0 [] (some a) n cap1 os w hE hS hX h3 hT' rfl hO' hn
  · rcases hO with ⟨rfl, rfl⟩ | ⟨a', n', cap', rfl, hn', _, _⟩
    · exact prs_any' (some a) n cap1 bs none 0 0 [] w hE hS hX h3 hT' hn hO' rfl
    · exact prs_any' (some a) n cap1 bs (some a') n' cap' os w hE hS hX h3 hT' hn hO' hn'
end Go.Proofs.YtcijjigafcpcpaaGreatDoor
