/- each and some, where the words need not be read behind the last one; mkdir and rm of a chain of directories. mkdir and rm of a chain of directories, and their runs. rm of one word; the runs of mkdir and rm. What the law UtilDirs calls, each as the law sees it. -/
import Derived.Test.YtbfchadcpokjoaaGreatDoorAZu
import Derived.Test.YtbfchadcpokjoaaGreatDoorAZq
import Derived.Test.YtbfchadcpokjoaaGreatDoorAZc
import Derived.Test.YtbfchadcpokjoaaGreatDoorAZt
import Derived.Test.YtbfchadcpokjoaaGreatDoorAZz
namespace Go.Proofs.YtbfchadcpokjoaaGreatDoor
open Go.RowKit Go.Maps

set_option maxRecDepth 100000 in
set_option maxHeartbeats 4000000 in
theorem each_fst (w : World) (C : Nat) (fv y iv ov : Value) (L : List Bs) (k : Nat) (bs fs : Array Value) (h : CallAt w C fv y iv ov) (hl : L.length ≤ 100000) (hcf : ∀ (xs : Array Value) (W : World), (callFunc k xs).run Tryz.prog W = .ok (.enter k xs) W) (hy : Txs w y L) (J : Nat → Int → World → Prop) (hj0 : J 0 0 w)
    (hk : ∀ W i st, J i st W → i < L.length → Txs W y L)
    (hq : ∀ W i st x, J i st W → L[i]? = some x → Calls Tryz.prog k (bs.push (.string (mk x)) ++ fs) W fun r W' => ∃ b, Erd r st b ∧ J (i + 1) b W') :
    Calls Tryz.prog 82 #[.pointer (some ⟨C, 0, none⟩), .func (.func k) bs fs] w fun r w' => ∃ st, r = .returned (.int .i64 st) ∧ J L.length st w' := by
  obtain ⟨a, c, hyy⟩ : ∃ a c, y = .slice a L.length c := by
    rcases hy with ⟨a, c, e, rfl⟩ | ⟨g, p, c, e, _⟩
    · exact ⟨a, c, e⟩
    · exact ⟨_, _, e⟩
  have c1 : w.cell? ⟨C, 1, none⟩ = some (.slice a L.length c) := by rw [← hyy, Lib.cell_of_heap h]; rfl
  have HQ := hide' hq
  have HK := hide' hk
  clear h hq hk hy
  subst hyy
  go_enter Tryz.func82, Tryz.ntmps82
  go_wp2
  go_loopw [5, 13] (fun s i wr => ∃ (n : Nat) (st : Int), n ≤ L.length ∧ i = .int .i64 n ∧ s = .int .i64 st ∧ J n st wr) (fun _ i _ => L.length - (match i with | .int _ n => n.toNat | _ => 0))
  case atStart => exact ⟨0, 0, Nat.zero_le _, rfl, rfl, hj0⟩
  case round =>
    obtain ⟨n, st, hn, rfl, rfl, hJ⟩ := hrel
    by_cases hnl : n < L.length
    · have k1 : (n : Int) < L.length := by omega
      obtain ⟨x, hx⟩ : ∃ x, L[n]? = some x := ⟨_, List.getElem?_eq_getElem hnl⟩
      obtain ⟨g, o, hax, hcx⟩ : ∃ g o, a = some ⟨g, o, none⟩ ∧ wr.cell? ⟨g, o + n, none⟩ = some (.string (mk x)) := by
        rcases HK.out _ _ _ hJ hnl with ⟨_, _, e, rfl⟩ | ⟨g, o, c', e, _, _, h4⟩
        · cases hx
        · cases e; exact ⟨g, o, rfl, h4 n x hx⟩
      subst hax
      have q := HQ.out _ _ _ _ hJ hx
      have HQ2 := hide' q
      clear q HQ HK hJ
      go_wp2_with fail
      refine HQ2.out.mono ?_
      rintro r w2 ⟨b, he, hJ2⟩
      rcases he with ⟨rfl, rfl⟩ | ⟨ad, rfl, rfl⟩
      · clear HQ2
        go_wp2
        go_roundw
        · exact ⟨n + 1, b, hnl, by simp, rfl, hJ2⟩
        · show L.length - ((n : Int) + 1).toNat < L.length - (n : Int).toNat
          omega
      · clear HQ2
        go_wp2
        go_roundw
        · exact ⟨n + 1, 1, hnl, by simp, rfl, hJ2⟩
        · show L.length - ((n : Int) + 1).toNat < L.length - (n : Int).toNat
          omega
    · obtain rfl : n = L.length := by omega
      clear HQ HK
      go_wp2
      go_ret
      exact ⟨_, rfl, hJ⟩
set_option maxRecDepth 100000 in
set_option maxHeartbeats 4000000 in
theorem some_fst (w : World) (C : Nat) (fv y iv ov : Value) (L : List Bs) (k : Nat) (bs fs : Array Value) (h : CallAt w C fv y iv ov) (hl : L.length ≤ 100000) (hcf : ∀ (xs : Array Value) (W : World), (callFunc k xs).run Tryz.prog W = .ok (.enter k xs) W) (hy : Txs w y L) (hL : L ≠ []) (J : Nat → Int → World → Prop) (hj0 : J 0 0 w)
    (hk : ∀ W i st, J i st W → i < L.length → Txs W y L)
    (hq : ∀ W i st x, J i st W → L[i]? = some x → Calls Tryz.prog k (bs.push (.string (mk x)) ++ fs) W fun r W' => ∃ b, Erd r st b ∧ J (i + 1) b W') :
    Calls Tryz.prog 93 #[.pointer (some ⟨C, 0, none⟩), .func (.func k) bs fs] w fun r w' => ∃ st, r = .returned (.int .i64 st) ∧ J L.length st w' := by
  have q := each_fst w C fv y iv ov L k bs fs h hl hcf hy J hj0 hk hq
  obtain ⟨a, c, hyy⟩ : ∃ a c, y = .slice a L.length c := by
    rcases hy with ⟨a, c, e, rfl⟩ | ⟨g, p, c, e, _⟩
    · exact ⟨a, c, e⟩
    · exact ⟨_, _, e⟩
  have c1 : w.cell? ⟨C, 1, none⟩ = some (.slice a L.length c) := by rw [← hyy, Lib.cell_of_heap h]; rfl
  have hne : ((L.length : Int) == 0) = false := by cases L with | nil => exact absurd rfl hL | cons x r => simp; omega
  have HQ := hide' q
  clear h hq hk hy q hL hcf
  go_enter Tryz.func93, Tryz.ntmps93
  go_wp2_with fail
  refine HQ.out.mono ?_
  rintro r w2 ⟨st, rfl, hJ⟩
  go_wp2
  go_ret
  exact ⟨_, rfl, hJ⟩
end Go.Proofs.YtbfchadcpokjoaaGreatDoor
namespace Go.Proofs.YtbfchadcpokjoaaGreatDoor
open Go.RowKit Go.Maps

/-- one word alone -/
theorem some_one (w : World) (C : Nat) (fv y iv ov : Value) (p : Bs) (k : Nat) (bs fs : Array Value) (h : CallAt w C fv y iv ov) (hcf : ∀ (xs : Array Value) (W : World), (callFunc k xs).run Tryz.prog W = .ok (.enter k xs) W) (hy : Txs w y [p]) (R : Int → World → Prop)
    (hq : Calls Tryz.prog k (bs.push (.string (mk p)) ++ fs) w fun r W' => ∃ b, Erd r 0 b ∧ R b W') :
    Calls Tryz.prog 93 #[.pointer (some ⟨C, 0, none⟩), .func (.func k) bs fs] w fun r w' => ∃ st, r = .returned (.int .i64 st) ∧ R st w' := by
  refine (some_fst w C fv y iv ov [p] k bs fs h (by simp) hcf hy (by simp) (fun i st W => (i = 0 ∧ st = 0 ∧ W = w) ∨ (i = 1 ∧ R st W)) (.inl ⟨rfl, rfl, rfl⟩) ?_ ?_).mono ?_
  · rintro W i st (⟨_, _, rfl⟩ | ⟨rfl, _⟩) hi
    · exact hy
    · simp at hi
  · rintro W i st x (⟨rfl, rfl, rfl⟩ | ⟨rfl, _⟩) hx
    · obtain rfl : p = x := by simpa using hx
      exact hq.mono fun r W' ⟨b, h1, h2⟩ => ⟨b, h1, .inr ⟨rfl, h2⟩⟩
    · simp at hx
  · rintro r w' ⟨st, rfl, (⟨h, _⟩ | ⟨_, h⟩)⟩
    · simp at h
    · exact ⟨st, rfl, h⟩
theorem each_one (w : World) (C : Nat) (fv y iv ov : Value) (p : Bs) (k : Nat) (bs fs : Array Value) (h : CallAt w C fv y iv ov) (hcf : ∀ (xs : Array Value) (W : World), (callFunc k xs).run Tryz.prog W = .ok (.enter k xs) W) (hy : Txs w y [p]) (R : Int → World → Prop)
    (hq : Calls Tryz.prog k (bs.push (.string (mk p)) ++ fs) w fun r W' => ∃ b, Erd r 0 b ∧ R b W') :
    Calls Tryz.prog 82 #[.pointer (some ⟨C, 0, none⟩), .func (.func k) bs fs] w fun r w' => ∃ st, r = .returned (.int .i64 st) ∧ R st w' := by
  refine (each_fst w C fv y iv ov [p] k bs fs h (by simp) hcf hy (fun i st W => (i = 0 ∧ st = 0 ∧ W = w) ∨ (i = 1 ∧ R st W)) (.inl ⟨rfl, rfl, rfl⟩) ?_ ?_).mono ?_
  · rintro W i st (⟨_, _, rfl⟩ | ⟨rfl, _⟩) hi
    · exact hy
    · simp at hi
  · rintro W i st x (⟨rfl, rfl, rfl⟩ | ⟨rfl, _⟩) hx
    · obtain rfl : p = x := by simpa using hx
      exact hq.mono fun r W' ⟨b, h1, h2⟩ => ⟨b, h1, .inr ⟨rfl, h2⟩⟩
    · simp at hx
  · rintro r w' ⟨st, rfl, (⟨h, _⟩ | ⟨_, h⟩)⟩
    · simp at h
    · exact ⟨st, rfl, h⟩

/-- the world that a run begins in: the file system -/
structure DirW (B : Nat) (E : Addr) (A : Nat) (S : Nat → Prop) (T : Tr) (ck : Int) (w : World) : Prop where
  fs : IsFs w S A T ck 1000
  glo : Glo B w E
  hB : B ≤ w.heap.size
  lo : ∀ i, S i → B ≤ i
  hi : ∀ i, S i → i < w.heap.size
  ck : ck ≤ 1000000
theorem DirW.below {B : Nat} {E : Addr} {A : Nat} {S : Nat → Prop} {T : Tr} {ck : Int} {w w' : World} (h : DirW B E A S T ck w) (hb : Below w.heap.size w w') : DirW B E A S T ck w' :=
  ⟨h.fs.below hb, h.glo.keep (hb.mono h.hB), Nat.le_trans h.hB hb.size, h.lo, fun i hi => Nat.lt_of_lt_of_le (h.hi i hi) hb.size, h.ck⟩
theorem dirW_next {B : Nat} {E : Addr} {A : Nat} {S : Nat → Prop} {T T' : Tr} {ck ck' : Int} {w w' : World} (h : DirW B E A S T ck w) (hf : FsOk S A 1000 T' ck' w w') (hc : ck' ≤ 1000000) : ∃ S', DirW B E A S' T' ck' w' ∧ Turn S w w' ∧ ∀ i, S' i → S i ∨ w.heap.size ≤ i := by
  obtain ⟨S', hf, ht, hs⟩ := hf
  have hb : Below B w w' := ht.below h.hB h.lo
  refine ⟨fun i => S' i ∧ i < w'.heap.size, ⟨hf.shrink, h.glo.keep hb, Nat.le_trans h.hB hb.size, fun i hi => ?_, fun i hi => hi.2, hc⟩, ht, fun i hi => hs i hi.1⟩
  rcases hs i hi.1 with h1 | h1
  · exact h.lo i h1
  · exact Nat.le_trans h.hB h1
theorem fsOk_early {S : Nat → Prop} {A : Nat} {rm : Int} {T : Tr} {ck : Int} {w w1 w2 : World} (h : FsOk S A rm T ck w1 w2) (hb : Below w.heap.size w w1) : FsOk S A rm T ck w w2 := by
  obtain ⟨S', hf, ht, hs⟩ := h
  exact ⟨S', hf, (Turn.of_below (S := S) hb).trans' ht, fun i hi => (hs i hi).imp_right fun h => Nat.le_trans hb.size h⟩
/-- what a run of a utility that prints nothing leaves -/
def DirV (S : Nat → Prop) (A C : Nat) (T : Tr) (ck st0 : Int) (w : World) (st : Int) (w' : World) : Prop := st = st0 ∧ w'.cell? ⟨C, 3, none⟩ = some (.slice none 0 0) ∧ FsOk S A 1000 T ck w w'
theorem txs_ne {W : World} {v y : Value} {C A : Nat} {x : Bs} {L M : List Bs} (h : CallAt W C (.pointer (some ⟨A, 0, none⟩)) y (.slice none 0 0) (.slice none 0 0)) (hy : Txs W y M) (hv : Txs W v (x :: L)) : ∀ g o c n, v = .slice (some ⟨g, o, none⟩) n c → g ≠ C := by
  rintro g o c n rfl rfl
  rcases hv with ⟨_, _, _, e⟩ | ⟨g', o', c', e, _, _, h4⟩
  · cases e
  · cases e
    have := h4 0 x rfl
    rw [Lib.cell_of_heap h] at this
    obtain ⟨ya, yn, yc, rfl⟩ : ∃ ya yn yc, y = .slice ya yn yc := by
      rcases hy with ⟨a, c, e, _⟩ | ⟨g', o', c', e, _⟩
      · exact ⟨_, _, _, e⟩
      · exact ⟨_, _, _, e⟩
    match o, this with
    | 0, h => cases h
    | 1, h => cases h
    | 2, h => cases h
    | 3, h => cases h
    | o + 4, h => simp at h

theorem cf96 (xs : Array Value) (W : World) : (callFunc 96 xs).run Tryz.prog W = .ok (.enter 96 xs) W := by kernel_rfl
theorem cf97 (xs : Array Value) (W : World) : (callFunc 97 xs).run Tryz.prog W = .ok (.enter 97 xs) W := by kernel_rfl
theorem cf91 (xs : Array Value) (W : World) : (callFunc 91 xs).run Tryz.prog W = .ok (.enter 91 xs) W := by kernel_rfl
theorem cf52 (xs : Array Value) (W : World) : (callFunc 52 xs).run Tryz.prog W = .ok (.enter 52 xs) W := by kernel_rfl
theorem cf50 (xs : Array Value) (W : World) : (callFunc 50 xs).run Tryz.prog W = .ok (.enter 50 xs) W := by kernel_rfl
/-- a call's block behind a call of the file system -/
theorem call_turn {S : Nat → Prop} {W W' : World} {C : Nat} {fv y iv ov : Value} (h : CallAt W C fv y iv ov) (ht : Turn S W W') (hn : ¬ S C) : CallAt W' C fv y iv ov := (ht.block C (lt_of_block h) hn).trans h
theorem call_c3 {W : World} {C : Nat} {fv y iv ov : Value} (h : CallAt W C fv y iv ov) : W.cell? ⟨C, 3, none⟩ = some ov := by rw [Lib.cell_of_heap h]; rfl

section
variable {B : Nat} {E : Addr} {A : Nat} {S : Nat → Prop} {w W : World} {C : Nat} {y : Value}
set_option maxRecDepth 100000 in
set_option maxHeartbeats 1000000 in
/-- mkdir -p -/
theorem mkdirp_any (m j : Nat) (hm1 : 1 ≤ m) (hm : m ≤ 20) (hj : j ≤ m) (h : DirW B E A S (ch j) j w) (hb : Below w.heap.size w W) (hC : w.heap.size ≤ C) (hc : CallAt W C (.pointer (some ⟨A, 0, none⟩)) y (.slice none 0 0) (.slice none 0 0)) (hy : Txs w y [[45, 112], dp m]) :
    Calls Tryz.prog 52 #[.pointer (some ⟨C, 0, none⟩)] W fun r w' => ∃ st, r = .returned (.int .i64 st) ∧ DirV S A C (ch m) m 0 w st w' := by
  have hyW := hy.below hb (Nat.le_refl _)
  have ko := option_yes W C _ y _ _ [45, 112] [dp m] hc hyW
  have hCl := lt_of_block hc
  have hn := fun (v : Value) (hv : Txs W v [dp m]) => txs_ne hc hyW hv
  have step : ∀ y', Txs W y' [dp m] → Calls Tryz.prog 93 #[.pointer (some ⟨C, 0, none⟩), .func (.func 96) #[.pointer (some ⟨C, 0, none⟩)] #[]] (W.setCell ⟨C, 1, none⟩ y') fun r w' => ∃ st, r = .returned (.int .i64 st) ∧ DirV S A C (ch m) m 0 w st w' := fun y' hy' => by
    have hne := hn y' hy'
    have hc1 : CallAt (W.setCell ⟨C, 1, none⟩ y') C (.pointer (some ⟨A, 0, none⟩)) y' (.slice none 0 0) (.slice none 0 0) := by
      unfold CallAt at hc ⊢
      simp [World.setCell, Array.getElem?_modify, hc]
    have hb1 : Below w.heap.size w (W.setCell ⟨C, 1, none⟩ y') := hb.setCell (p := ⟨C, 1, none⟩) hC _
    have hy1 : Txs (W.setCell ⟨C, 1, none⟩ y') y' [dp m] := by
      rcases hy' with ⟨_, _, _, e⟩ | ⟨g, o, c, e, h1, h2, h3⟩
      · cases e
      · refine .inr ⟨g, o, c, e, h1, Nat.lt_of_lt_of_le h2 (KeepsOthers.setCell W _ _).size, fun i x hx => ?_⟩
        have hg := hne g o c _ e
        exact (World.cell?_of_block (a := ⟨g, o + i, none⟩) (Below.heap_setCell W ⟨C, 1, none⟩ y' g hg)).trans (h3 i x hx)
    refine some_one _ C _ y' _ _ (dp m) 96 #[.pointer (some ⟨C, 0, none⟩)] #[] hc1 cf96 hy1 _ ?_
    refine (makeWay_any B A C E m j hm1 hm hj S y' _ _ _ hc1 (h.fs.below hb1) (h.glo.keep (hb1.mono h.hB)) (Nat.le_trans h.hB hb1.size) h.lo (fun i hi => Nat.lt_of_lt_of_le (h.hi i hi) hb1.size) (fun hi => by have := h.hi C hi; omega)).mono ?_
    rintro r W' ⟨rfl, hok⟩
    refine ⟨0, .inl ⟨rfl, rfl⟩, rfl, ?_, fsOk_early hok hb1⟩
    exact call_c3 (call_turn hc1 hok.choose_spec.2.1 (fun hi => by have := h.hi C hi; omega))
  have HST := hide' step
  clear step hn hyW hy hc hb h hC
  go_enter Tryz.func52, Tryz.ntmps52
  go_wp2_with fail
  refine ko.mono ?_
  rintro r w1 ⟨y', rfl, rfl, hy'⟩
  have q := HST.out y' hy'
  have HQ := hide' q
  clear q HST ko hy'
  go_wp2_with fail
  refine HQ.out.mono ?_
  rintro r w2 ⟨st, rfl, hd⟩
  go_wp2
  go_ret
  exact ⟨st, rfl, hd⟩

set_option maxRecDepth 100000 in
set_option maxHeartbeats 1000000 in
/-- mkdir of what is there -/
theorem mkdir_there (m : Nat) (hm1 : 1 ≤ m) (hm : m ≤ 20) (h : DirW B E A S (ch m) m w) (hb : Below w.heap.size w W) (hC : w.heap.size ≤ C) (hc : CallAt W C (.pointer (some ⟨A, 0, none⟩)) y (.slice none 0 0) (.slice none 0 0)) (hy : Txs w y [dp m]) :
    Calls Tryz.prog 52 #[.pointer (some ⟨C, 0, none⟩)] W fun r w' => ∃ st, r = .returned (.int .i64 st) ∧ DirV S A C (ch m) m 1 w st w' := by
  have hyW := hy.below hb (Nat.le_refl _)
  have hne : dp m ≠ [45, 112] := by
    obtain ⟨k, rfl⟩ : ∃ k, m = k + 1 := ⟨m - 1, by omega⟩
    rcases k with _ | k
    · decide
    · rw [dp_front k (by omega)]; intro e; cases e
  have ko := option_no W C _ y _ _ [45, 112] (dp m) [] hc hyW hne
  have hCl := lt_of_block hc
  have hnC : ¬ S C := fun hi => by have := h.hi C hi; omega
  have step : Calls Tryz.prog 93 #[.pointer (some ⟨C, 0, none⟩), .func (.func 97) #[.pointer (some ⟨C, 0, none⟩)] #[]] W fun r w' => ∃ st, r = .returned (.int .i64 st) ∧ DirV S A C (ch m) m 1 w st w' := by
    refine some_one _ C _ y _ _ (dp m) 97 #[.pointer (some ⟨C, 0, none⟩)] #[] hc cf97 hyW _ ?_
    have q := makeDir_any B A C E (ch m) m 1000 (mk (dp m)) S y _ _ W hc (h.fs.below hb) (h.glo.keep (hb.mono h.hB)) (Nat.le_trans h.hB hb.size) h.lo (by have := h.ck; omega) (by rw [mk_size]; have := dp_len m; omega)
    rw [tl_mk, dp_clean m hm, ch_there m hm hm1] at q
    refine q.mono ?_
    rintro r W' ⟨he, hok⟩
    rcases he with ⟨h0, _⟩ | ⟨_, a, rfl⟩
    · cases h0
    · refine ⟨1, .inr ⟨a, rfl, rfl⟩, rfl, ?_, fsOk_early hok hb⟩
      exact call_c3 (call_turn hc hok.choose_spec.2.1 hnC)
  have HST := hide' step
  clear step hyW hy hc hb h hC hne hnC
  go_enter Tryz.func52, Tryz.ntmps52
  go_wp2_with fail
  refine ko.mono ?_
  rintro r w1 ⟨rfl, rfl⟩
  go_wp2_with fail
  refine HST.out.mono ?_
  rintro r w2 ⟨st, rfl, hd⟩
  go_wp2
  go_ret
  exact ⟨st, rfl, hd⟩

set_option maxRecDepth 100000 in
set_option maxHeartbeats 1000000 in
/-- what rm does to a word -/
theorem rm1_any (T : Tr) (clk : Int) (p : Bs) (Bx Bf : Nat) (hpl : p.length ≤ 1000) (h : DirW B E A S T clk W) {iv ov : Value} (hc : CallAt W C (.pointer (some ⟨A, 0, none⟩)) y iv ov) (hx : Boxed W Bx 71 (.pointer (some ⟨C, 0, none⟩))) (hf : Boxed W Bf 4 (.bool false)) (hnf : ¬ S Bf) :
    Calls Tryz.prog 91 #[.string (mk p), .pointer (some ⟨Bx, 0, none⟩), .pointer (some ⟨Bf, 0, none⟩)] W fun r w' => ErAt S A 1000 W r w' (removeR T clk (clean p)) := by
  have q := Remove_any B A E T clk 1000 (mk p) S W h.fs h.glo h.hB h.lo (by have := h.ck; omega) (by rw [mk_size]; omega)
  rw [tl_mk] at q
  generalize removeR T clk (clean p) = o at q
  have c0 : W.cell? ⟨C, 0, none⟩ = some (.pointer (some ⟨A, 0, none⟩)) := by rw [Lib.cell_of_heap hc]; rfl
  have cx := hx.cell
  have HQ := hide' q
  have hfl := hf.lt
  clear q h hc hx
  go_enter Tryz.func91, Tryz.ntmps91
  go_wp2_with fail
  refine HQ.out.mono ?_
  rintro r w1 ⟨rfl, S', hf1, ht, hsb⟩
  have bf : Boxed w1 Bf 4 (.bool false) := (ht.block Bf hfl hnf).trans hf
  by_cases h0 : o.1 = 0
  · rw [h0]
    have cf := bf.cell
    go_wp2_with fail
    refine (met_ok w1 _).mono ?_
    rintro r w2 ⟨rfl, rfl⟩
    go_wp2
    go_ret
    exact ⟨.inl ⟨h0, rfl⟩, S', hf1, ht, hsb⟩
  · have hb : ((o.1 : Nat) : Int) ≠ 0 := by omega
    go_wp2_with fail
    refine (met_err w1 (mk p) _ hb).mono ?_
    rintro r w2 ⟨rfl, rfl⟩
    have cf := (bf.alloc (.cells #[.string (mk p), .iface 37 (.int .i64 (o.1 : Nat))] 176)).cell
    go_wp2
    go_ret
    exact ⟨.inr ⟨h0, _, rfl⟩, S', hf1.below ((Below.refl _ _).alloc (Nat.le_refl _) _), ht.alloc _, hsb⟩
end
end Go.Proofs.YtbfchadcpokjoaaGreatDoor
namespace Go.Proofs.YtbfchadcpokjoaaGreatDoor
open Go.RowKit Go.Maps

section
variable {B : Nat} {E : Addr} {A : Nat} {S : Nat → Prop} {w W : World} {C : Nat} {y : Value}
def stOf (o : Out) : Int := if o.1 = 0 then 0 else 1
set_option maxRecDepth 100000 in
set_option maxHeartbeats 1000000 in
theorem rm_any (T : Tr) (clk : Int) (p : Bs) (o : Out) (ho : removeR T clk (clean p) = o) (hpl : p.length ≤ 1000) (hp : p ≠ [45, 102]) (h : DirW B E A S T clk w) (hb : Below w.heap.size w W) (hC : w.heap.size ≤ C) (hc : CallAt W C (.pointer (some ⟨A, 0, none⟩)) y (.slice none 0 0) (.slice none 0 0)) (hy : Txs w y [p]) :
    Calls Tryz.prog 50 #[.pointer (some ⟨C, 0, none⟩)] W fun r w' => ∃ st, r = .returned (.int .i64 st) ∧ DirV S A C o.2.1 o.2.2 (stOf o) w st w' := by
  have hCl := lt_of_block hc
  have hsw := hb.size
  have hnC : ¬ S C := fun hi => by have := h.hi C hi; omega
  obtain ⟨W1, hW1⟩ : ∃ W1, W1 = W.alloc (.cells #[.pointer (some ⟨C, 0, none⟩)] 71) := ⟨_, rfl⟩
  obtain ⟨W2, hW2⟩ : ∃ W2, W2 = W1.alloc (.cells #[.bool false] 4) := ⟨_, rfl⟩
  have hb1 : Below W.heap.size W W1 := by rw [hW1]; exact (Below.refl _ _).alloc (Nat.le_refl _) _
  have hb2 : Below W1.heap.size W1 W2 := by rw [hW2]; exact (Below.refl _ _).alloc (Nat.le_refl _) _
  have hs1 : W1.heap.size = W.heap.size + 1 := by rw [hW1]; simp
  have hb12 : Below W.heap.size W W2 := hb1.trans (hb2.mono (by omega))
  have hbw1 : Below w.heap.size w W1 := hb.trans (hb1.mono hsw)
  have hbw2 : Below w.heap.size w W2 := hb.trans (hb12.mono hsw)
  have hc1 : CallAt W1 C (.pointer (some ⟨A, 0, none⟩)) y (.slice none 0 0) (.slice none 0 0) := (hb1.block C hCl).trans hc
  have hc2 : CallAt W2 C (.pointer (some ⟨A, 0, none⟩)) y (.slice none 0 0) (.slice none 0 0) := (hb12.block C hCl).trans hc
  have hy1 := hy.below hbw1 (Nat.le_refl _)
  have hy2 := hy.below hbw2 (Nat.le_refl _)
  have bx : Boxed W2 W.heap.size 71 (.pointer (some ⟨C, 0, none⟩)) := by rw [hW2, hW1]; exact (Boxed.new W 71 _).alloc _
  have bf : Boxed W2 W1.heap.size 4 (.bool false) := by rw [hW2]; exact Boxed.new W1 4 _
  have ko := option_no W1 C _ y _ _ [45, 102] p [] hc1 hy1 hp
  have q1 := rm1_any (B := B) (E := E) (A := A) (S := S) (W := W2) (C := C) (y := y) T clk p W.heap.size W1.heap.size hpl (h.below hbw2) hc2 bx bf (fun hi => by have := h.hi _ hi; omega)
  rw [ho] at q1
  have step : Calls Tryz.prog 82 #[.pointer (some ⟨C, 0, none⟩), .func (.func 91) #[] #[.pointer (some ⟨W.heap.size, 0, none⟩), .pointer (some ⟨W1.heap.size, 0, none⟩)]] W2 fun r w' => ∃ st, r = .returned (.int .i64 st) ∧ DirV S A C o.2.1 o.2.2 (stOf o) w st w' := by
    refine each_one _ C _ y _ _ p 91 #[] #[.pointer (some ⟨W.heap.size, 0, none⟩), .pointer (some ⟨W1.heap.size, 0, none⟩)] hc2 cf91 hy2 _ ?_
    refine Calls.mono (R := fun r w' => ErAt S A 1000 W2 r w' o) q1 ?_
    rintro r W' ⟨he, hok⟩
    have hc3 := call_c3 (call_turn hc2 hok.choose_spec.2.1 hnC)
    rcases he with ⟨h0, rfl⟩ | ⟨h0, a, rfl⟩
    · exact ⟨0, .inl ⟨rfl, rfl⟩, by unfold stOf; rw [if_pos h0], hc3, fsOk_early hok hbw2⟩
    · exact ⟨1, .inr ⟨a, rfl, rfl⟩, by unfold stOf; rw [if_neg h0], hc3, fsOk_early hok hbw2⟩
  obtain ⟨ya, yc, rfl⟩ : ∃ ya yc, y = .slice ya 1 yc := by
    rcases hy with ⟨_, _, _, e⟩ | ⟨g, o, c, e, _⟩
    · cases e
    · exact ⟨_, _, e⟩
  have x1 : W2.cell? ⟨C, 1, none⟩ = some (.slice ya 1 yc) := by rw [Lib.cell_of_heap hc2]; rfl
  have x2 := bx.cell
  have x3 := bf.cell
  rw [hs1] at x3 step
  rw [hW2, hW1] at x1 x2 x3 step
  rw [hW1] at ko
  have HST := hide' step
  clear step hy hy1 hy2 hc hc1 hc2 hb h hC hnC q1 bx bf hb1 hb2 hb12 hbw1 hbw2 hW1 hW2 hs1 W1 W2
  go_enter Tryz.func50, Tryz.ntmps50
  go_wp2_with fail
  refine ko.mono ?_
  rintro r w1 ⟨rfl, rfl⟩
  go_wp2_with fail
  refine HST.out.mono ?_
  rintro r w2 ⟨st, rfl, hd⟩
  go_wp2
  go_ret
  exact ⟨st, rfl, hd⟩

/-- what a run tells the law -/
def RunD (S : Nat → Prop) (A : Nat) (T : Tr) (ck st : Int) (w : World) (r : Ending) (w' : World) : Prop := ∃ a n, r = .returned (.tuple #[.slice a n n, .int .i64 st, .bool true]) ∧ FsOk S A 1000 T ck w w'
theorem run_dir (k : Nat) (x : Bs) (L : List Bs) (v : Value) (T : Tr) (ck st0 : Int) (hk : utOf x = some k) (hcf : ∀ (xs : Array Value) (W : World), (callFunc k xs).run Tryz.prog W = .ok (.enter k xs) W) (hl : L.length ≤ 100000) (hv : Txs w v (x :: L))
    (hq : ∀ (W : World) (C : Nat) (y : Value), Below w.heap.size w W → w.heap.size ≤ C → CallAt W C (.pointer (some ⟨A, 0, none⟩)) y (.slice none 0 0) (.slice none 0 0) → Txs w y L → Calls Tryz.prog k #[.pointer (some ⟨C, 0, none⟩)] W fun r w' => ∃ st, r = .returned (.int .i64 st) ∧ DirV S A C T ck st0 w st w') :
    Calls Tryz.prog 16 #[.pointer (some ⟨A, 0, none⟩), v, .slice none 0 0] w fun r w' => RunD S A T ck st0 w r w' := by
  refine (run_any w ⟨A, 0, none⟩ none 0 0 v x L k hk hcf hl hv (fun _ _ st w0 => st = st0 ∧ FsOk S A 1000 T ck w w0) ?_).mono ?_
  · intro W C y hb hC _ hc hy
    refine (hq W C y hb hC hc hy).mono ?_
    rintro r w' ⟨st, rfl, h1, h2, h3⟩
    exact ⟨st, none, 0, 0, rfl, Nat.le_refl _, h2, h1, h3⟩
  · rintro r w' ⟨st, a, n, w0, rfl, ⟨rfl, S', hf, ht, hs⟩, m, rfl⟩
    exact ⟨a, n, rfl, S', hf.below (below_drewn (B := w0.heap.size) m), ht.drewN m, hs⟩
theorem run_mkdirp (m j : Nat) (hm1 : 1 ≤ m) (hm : m ≤ 20) (hj : j ≤ m) (h : DirW B E A S (ch j) j w) (v : Value) (hv : Txs w v [[109, 107, 100, 105, 114], [45, 112], dp m]) :
    Calls Tryz.prog 16 #[.pointer (some ⟨A, 0, none⟩), v, .slice none 0 0] w fun r w' => RunD S A (ch m) m 0 w r w' :=
  run_dir 52 _ _ v _ _ 0 (by decide) cf52 (by simp) hv fun _ _ _ hb hC hc hy => mkdirp_any m j hm1 hm hj h hb hC hc hy
theorem run_mkdir (m : Nat) (hm1 : 1 ≤ m) (hm : m ≤ 20) (h : DirW B E A S (ch m) m w) (v : Value) (hv : Txs w v [[109, 107, 100, 105, 114], dp m]) :
    Calls Tryz.prog 16 #[.pointer (some ⟨A, 0, none⟩), v, .slice none 0 0] w fun r w' => RunD S A (ch m) m 1 w r w' :=
  run_dir 52 _ _ v _ _ 1 (by decide) cf52 (by simp) hv fun _ _ _ hb hC hc hy => mkdir_there m hm1 hm h hb hC hc hy
theorem run_rm (T : Tr) (clk : Int) (p : Bs) (o : Out) (ho : removeR T clk (clean p) = o) (hpl : p.length ≤ 1000) (hp : p ≠ [45, 102]) (h : DirW B E A S T clk w) (v : Value) (hv : Txs w v [[114, 109], p]) :
    Calls Tryz.prog 16 #[.pointer (some ⟨A, 0, none⟩), v, .slice none 0 0] w fun r w' => RunD S A o.2.1 o.2.2 (stOf o) w r w' :=
  run_dir 50 _ _ v _ _ _ (by decide) cf50 (by simp) hv fun _ _ _ hb hC hc hy => rm_any T clk p o ho hpl hp h hb hC hc hy
end
end Go.Proofs.YtbfchadcpokjoaaGreatDoor
namespace Go.Proofs.YtbfchadcpokjoaaGreatDoor
open Go.RowKit Go.Maps

/-- the world between two steps of the law -/
structure DS (w : World) (E : Addr) (A : Nat) (S : Nat → Prop) (T : Tr) (ck : Int) (W : World) : Prop where
  d : DirW w.heap.size E A S T ck W
  b : Below w.heap.size w W
section
variable {w W : World} {E : Addr} {A : Nat} {S : Nat → Prop} {T : Tr} {ck : Int}
theorem DS.below {W' : World} (h : DS w E A S T ck W) (hb : Below W.heap.size W W') : DS w E A S T ck W' := ⟨h.d.below hb, h.b.trans (hb.mono h.b.size)⟩
theorem DS.next {W' : World} {T' : Tr} {ck' : Int} (h : DS w E A S T ck W) (hf : FsOk S A 1000 T' ck' W W') (hc : ck' ≤ 1000000) : ∃ S', DS w E A S' T' ck' W' := by
  obtain ⟨S', hd, ht, _⟩ := dirW_next h.d hf hc
  exact ⟨S', hd, h.b.trans (ht.below h.b.size h.d.lo)⟩
/-- what the law sees of a run -/
def RunL (w : World) (E : Addr) (A : Nat) (T : Tr) (ck st : Int) (r : Ending) (w' : World) : Prop := ∃ a n S', r = .returned (.tuple #[.slice a n n, .int .i64 st, .bool true]) ∧ DS w E A S' T ck w'
theorem runL {T' : Tr} {ck' st : Int} (h : DS w E A S T ck W) (hc : ck' ≤ 1000000) {r : Ending} {w' : World} (hr : RunD S A T' ck' st W r w') : RunL w E A T' ck' st r w' := by
  obtain ⟨a, n, rfl, hf⟩ := hr
  obtain ⟨S', hd⟩ := h.next hf hc
  exact ⟨a, n, S', rfl, hd⟩
theorem call_mkdirp (n j : Nat) (P : ByteArray) (hP : P = mk (dp n)) (h1 : 1 ≤ n) (h2 : n ≤ 20) (hj : j ≤ n) (h : DS w E A S (ch j) j W) :
    Calls Tryz.prog 16 #[.pointer (some ⟨A, 0, none⟩), .slice (some ⟨W.heap.size, 0, none⟩) 3 3, .slice none 0 0] (W.alloc (.cells #[.string ⟨#[109, 107, 100, 105, 114]⟩, .string ⟨#[45, 112]⟩, .string P] 9)) (RunL w E A (ch n) n 0) := by
  subst hP
  have h' := h.below ((Below.refl _ _).alloc (Nat.le_refl _) (.cells #[.string ⟨#[109, 107, 100, 105, 114]⟩, .string ⟨#[45, 112]⟩, .string (mk (dp n))] 9))
  exact (run_mkdirp n j h1 h2 hj h'.d _ (txs_new W [[109, 107, 100, 105, 114], [45, 112], dp n])).mono fun r w' hr => runL h' (by omega) hr
theorem call_mkdir (n : Nat) (P : ByteArray) (hP : P = mk (dp n)) (h1 : 1 ≤ n) (h2 : n ≤ 20) (h : DS w E A S (ch n) n W) :
    Calls Tryz.prog 16 #[.pointer (some ⟨A, 0, none⟩), .slice (some ⟨W.heap.size, 0, none⟩) 2 2, .slice none 0 0] (W.alloc (.cells #[.string ⟨#[109, 107, 100, 105, 114]⟩, .string P] 9)) (RunL w E A (ch n) n 1) := by
  subst hP
  have h' := h.below ((Below.refl _ _).alloc (Nat.le_refl _) (.cells #[.string ⟨#[109, 107, 100, 105, 114]⟩, .string (mk (dp n))] 9))
  exact (run_mkdir n h1 h2 h'.d _ (txs_new W [[109, 107, 100, 105, 114], dp n])).mono fun r w' hr => runL h' (by omega) hr
theorem call_rm (p : Bs) (P : ByteArray) (hP : P = mk p) (o : Out) (ho : removeR T ck (clean p) = o) (hpl : p.length ≤ 1000) (hp : p ≠ [45, 102]) (hc : o.2.2 ≤ 1000000) (h : DS w E A S T ck W) :
    Calls Tryz.prog 16 #[.pointer (some ⟨A, 0, none⟩), .slice (some ⟨W.heap.size, 0, none⟩) 2 2, .slice none 0 0] (W.alloc (.cells #[.string ⟨#[114, 109]⟩, .string P] 9)) (RunL w E A o.2.1 o.2.2 (stOf o)) := by
  subst hP
  have h' := h.below ((Below.refl _ _).alloc (Nat.le_refl _) (.cells #[.string ⟨#[114, 109]⟩, .string (mk p)] 9))
  exact (run_rm T ck p o ho hpl hp h'.d _ (txs_new W [[114, 109], p])).mono fun r w' hr => runL h' hc hr
/-- the two removals -/
theorem call_rms (n : Nat) (h1 : 1 ≤ n) (h2 : n ≤ 20) : ∃ (T1 : Tr) (c1 : Int) (T2 : Tr) (c2 : Int), T2.length = n - 1 ∧
    (∀ W S, DS w E A S (ch n) n W → Calls Tryz.prog 16 #[.pointer (some ⟨A, 0, none⟩), .slice (some ⟨W.heap.size, 0, none⟩) 2 2, .slice none 0 0] (W.alloc (.cells #[.string ⟨#[114, 109]⟩, .string ⟨#[100]⟩] 9)) (RunL w E A T1 c1 (if n = 1 then 0 else 1))) ∧
    (∀ W S P, P = mk (dp n) → DS w E A S T1 c1 W → Calls Tryz.prog 16 #[.pointer (some ⟨A, 0, none⟩), .slice (some ⟨W.heap.size, 0, none⟩) 2 2, .slice none 0 0] (W.alloc (.cells #[.string ⟨#[114, 109]⟩, .string P] 9)) (RunL w E A T2 c2 (if n = 1 then 1 else 0))) := by
  have c1 : clean [100] = [100] := by decide
  have hdn : dp n ≠ [45, 102] := by
    obtain ⟨k, rfl⟩ : ∃ k, n = k + 1 := ⟨n - 1, by omega⟩
    rcases k with _ | k
    · decide
    · rw [dp_front k (by omega)]; intro e; cases e
  by_cases hn : n = 1
  · subst hn
    obtain ⟨e1, e2, e3⟩ := ch_rm1
    refine ⟨[], 2, [], 2, rfl, fun W S h => ?_, fun W S P hP h => ?_⟩
    · have q := call_rm [100] ⟨#[100]⟩ rfl (0, [], 2) (by rw [c1]; exact e1) (by decide) (by decide) (by decide) h
      exact q
    · have q := call_rm [100] P (by rw [hP, e3]) (10, [], 2) (by rw [c1]; exact e2) (by decide) (by decide) (by decide) h
      exact q
  · obtain ⟨e1, e2⟩ := ch_rm n h2 (by omega)
    refine ⟨ch n, n, ch (n - 1), ((n + 1 : Nat) : Int), ch_len _, fun W S h => ?_, fun W S P hP h => ?_⟩
    · have q := call_rm [100] ⟨#[100]⟩ rfl (14, ch n, (n : Int)) (by rw [c1]; exact e1) (by decide) (by decide) (by show (n : Int) ≤ 1000000; omega) h
      rw [if_neg hn]
      exact q
    · have q := call_rm (dp n) P hP (0, ch (n - 1), ((n + 1 : Nat) : Int)) (by rw [dp_clean n h2]; exact e2) (by have := dp_len n; omega) hdn (by show ((n + 1 : Nat) : Int) ≤ 1000000; omega) h
      rw [if_neg hn]
      exact q
/-- Mkdir of the next name -/
theorem call_mk (k : Nat) (P : ByteArray) (hP : P = mk (dp (k + 1))) (hk : k < 20) (h : DS w E A S (ch k) k W) :
    Calls Tryz.prog 17 #[.pointer (some ⟨A, 0, none⟩), .string P] W fun r w' => ∃ S', r = .returned (.int .i64 0) ∧ DS w E A S' (ch (k + 1)) ((k + 1 : Nat) : Int) w' := by
  subst hP
  have q := Mkdir_any w.heap.size A E (ch k) k 1000 (mk (dp (k + 1))) S W h.d.fs h.d.glo h.d.hB h.d.lo (by omega) (by rw [mk_size]; have := dp_len (k + 1); omega)
  rw [tl_mk, dp_clean (k + 1) (by omega), ch_mk k hk] at q
  refine q.mono ?_
  rintro r w' ⟨rfl, hf⟩
  obtain ⟨S', hd⟩ := h.next (T' := ch (k + 1)) (ck' := ((k + 1 : Nat) : Int)) hf (by omega)
  exact ⟨S', rfl, hd⟩
/-- New of nothing -/
theorem call_new (B : Nat) (hG : Glo B w E) (hB : B ≤ w.heap.size) (hb : Below w.heap.size w W) :
    Calls Tryz.prog 11 #[.agg #[.slice none 0 0, .int .i64 0, .int .i64 1000]] W fun r w' => ∃ G S', r = .returned (.tuple #[.pointer (some ⟨G, 0, none⟩), .int .i64 0]) ∧ DS w E G S' (ch 0) ((0 : Nat) : Int) w' := by
  have hg : Glo w.heap.size w E := ⟨hG.c0, hG.c1, by have := hG.lo; omega⟩
  have q := New_any w.heap.size E (.slice none 0 0) [] 0 1000 W (.inl ⟨⟨_, _, rfl⟩, rfl⟩) (hg.keep hb) hb.size (fun n hn => by cases hn)
  rw [show newR [] 0 1000 = .inr [] from rfl] at q
  refine q.mono ?_
  rintro r w' ⟨hb', G, rfl, hfs⟩
  have hB' : Below w.heap.size w w' := hb.trans (hb'.mono hb.size)
  exact ⟨G, _, rfl, ⟨hfs.shrink, hg.keep hB', hB'.size, fun i hi => Nat.le_trans hb.size hi.1, fun i hi => hi.2, by decide⟩, hB'⟩
/-- Tree -/
theorem call_tree (h : DS w E A S T ck W) : Calls Tryz.prog 18 #[.pointer (some ⟨A, 0, none⟩)] W fun r w' => ∃ a c x y, r = .returned (.agg #[.slice a T.length c, x, y]) ∧ Below w.heap.size w w' := by
  refine (Tree_any A T ck 1000 S W h.d.fs).mono ?_
  rintro r w' ⟨⟨v, ns, rfl, hn, hT⟩, hb⟩
  have hl : ns.length = T.length := by rw [← hT, List.length_map]
  rcases hn.row with ⟨rfl, rfl⟩ | ⟨g, cap, cur, rfl, _⟩
  · exact ⟨none, 0, _, _, by rw [← hl]; rfl, h.b.trans (hb.mono h.b.size)⟩
  · exact ⟨_, cap, _, _, by rw [← hl], h.b.trans (hb.mono h.b.size)⟩
end
theorem dp_one : (⟨#[]⟩ : ByteArray) ++ ⟨#[100]⟩ = mk (dp 1) := by decide +kernel
theorem dp_more (k : Nat) (hk : 1 ≤ k) (P : ByteArray) (hP : P = mk (dp k)) : P ++ ⟨#[47]⟩ ++ ⟨#[100]⟩ = mk (dp (k + 1)) := by
  subst hP
  apply tl_inj
  rw [tl_app, tl_app, tl_mk, tl_mk]
  show dp k ++ [47] ++ [100] = (if k = 0 then [] else dp k ++ [47]) ++ [100]
  rw [if_neg (by omega)]
end Go.Proofs.YtbfchadcpokjoaaGreatDoor
