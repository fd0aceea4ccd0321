/- The contracts of (*FS).kids, of the iterator that it hands back, and of (*FS).filled. The contract of (*FS).filled. -/
import Derived.Test.YtbfchadcpokjoaaGreatDoorAEnds
import Derived.Test.YtbfchadcpokjoaaGreatDoorAZb
import Derived.Sort.KeysCollected
import Derived.Sort.MapsRangeIn
import Derived.RangeFuncStops
import Derived.Test.YtbfchadcpokjoaaGreatDoorALook2
namespace Go.Proofs.YtbfchadcpokjoaaGreatDoor
open Go.RowKit Go.Shelf Go.Maps
attribute [local go_sem] Oper.semAt_some

/-- what stands ahead of the names in a directory -/
def ahead (p : Bs) : Bs := if p = [] then [] else p ++ [47]
/-- a path's name in the directory p, if it is there -/
def kidOf (p q : Bs) : Option Bs := if (ahead p).isPrefixOf q && !((q.drop (ahead p).length).contains 47) then some (q.drop (ahead p).length) else none
def kidNames {α : Type} (L : List (Bs × α)) (p : Bs) : List Bs := (L.map (·.1)).filterMap (kidOf p)

theorem kids_any (A : Nat) (p : Bs) (hp : p.length ≤ 1000000) (w : World) : Calls Tryz.prog 178 #[.pointer (some ⟨A, 0, none⟩), .string (mk p)] w fun e w' =>
    e = .returned (.func (.func 194) #[] #[.pointer (some ⟨w.heap.size, 0, none⟩), .pointer (some ⟨w.heap.size + 1, 0, none⟩)]) ∧ w' = (w.alloc (.cells #[.pointer (some ⟨A, 0, none⟩)] 36)).alloc (.cells #[.string (mk (ahead p))] 9) := by
  cases p with
  | nil =>
    go_enter Tryz.func178, Tryz.ntmps178
    go_wp2
    go_ret
    exact ⟨rfl, rfl⟩
  | cons c r =>
    have e1 : ahead (c :: r) = (c :: r) ++ [47] := rfl
    rw [e1]
    have hne : ((mk (c :: r)).toList == (⟨#[]⟩ : ByteArray).toList) = false := by
      refine beq_eq_false_iff_ne.2 fun e => ?_
      have := congrArg List.length e
      simp at this
    have hb : ¬ 9223372036854775807 < r.length + 1 + 1 := by simp at hp; omega
    have hap : mk (c :: r) ++ ⟨#[47]⟩ = mk ((c :: r) ++ [47]) := tl_inj _ _ (by simp [tl])
    go_enter Tryz.func178, Tryz.ntmps178
    go_wp2
    go_ret
    exact ⟨rfl, rfl⟩
/-- what a round must keep: every block below N but A, and maps and their iterators -/
def Kw (A N : Nat) (W W' : World) : Prop := Kf A N W W' ∧ KeepsWalks W W'
theorem Kw.t {A N : Nat} {X Y Z : World} (h : Kw A N X Y) (k : Kw A N Y Z) : Kw A N X Z := ⟨h.1.t k.1, h.2.trans k.2⟩
theorem trim_drop (q a : Bs) (h : Lib.hasPrefix q a = true) : Lib.trimPrefix q a = q.drop a.length := by
  unfold Lib.trimPrefix
  rw [if_pos h]
theorem hasPrefix_is (q a : Bs) : Lib.hasPrefix q a = a.isPrefixOf q := by
  unfold Lib.hasPrefix
  rfl
theorem indexByte_ge (l : Bs) (c : UInt8) : -1 ≤ Lib.indexByte l c := by
  induction l with
  | nil => simp [Lib.indexByte]
  | cons b r ih =>
    unfold Lib.indexByte
    split
    · omega
    · split
      · omega
      · omega
theorem indexByte_has (l : Bs) (c : UInt8) : decide (0 ≤ Lib.indexByte l c) = l.contains c := by
  induction l with
  | nil => simp [Lib.indexByte]
  | cons b r ih =>
    have hge := indexByte_ge r c
    unfold Lib.indexByte
    rw [List.contains_cons]
    by_cases h : b = c
    · subst h; simp
    · have h1 : (b == c) = false := beq_eq_false_iff_ne.2 h
      have h2 : (c == b) = false := beq_eq_false_iff_ne.2 (Ne.symm h)
      rw [h1, h2, Bool.false_or, ← ih]
      simp only [Bool.false_eq_true, if_false]
      by_cases hm : Lib.indexByte r c = -1
      · rw [hm]; simp
      · rw [if_neg (by simpa using hm)]
        by_cases h0 : 0 ≤ Lib.indexByte r c
        · rw [decide_eq_true h0, decide_eq_true (by omega)]
        · omega
theorem kids_yes {p q : Bs} (h1 : (ahead p).isPrefixOf q = true) (h2 : (q.drop (ahead p).length).contains 47 = false) : kidOf p q = some (q.drop (ahead p).length) := by
  unfold kidOf
  rw [h1, h2]; rfl
theorem kids_no1 {p q : Bs} (h1 : (ahead p).isPrefixOf q = false) : kidOf p q = none := by
  unfold kidOf
  rw [h1]; rfl
theorem kids_no2 {p q : Bs} (h2 : (q.drop (ahead p).length).contains 47 = true) : kidOf p q = none := by
  unfold kidOf
  rw [h2]; simp
theorem datum_has {H : Type} (L : List (Bs × Nat)) (x : Bs) (h : Maps.has (datum L : DataW H) (.string x) = true) : ∃ b, (x, b) ∈ L := by
  unfold datum at h
  rw [has_eq, List.any_map, List.any_eq_true] at h
  obtain ⟨e, he, hs⟩ := h
  have : e.1 = x := by simpa [Lit.sameKey] using hs
  exact ⟨e.2, by rw [← this]; exact he⟩
theorem datum_keys {H : Type} (L : List (Bs × Nat)) : strKeys (datum L : DataW H) = L.map (·.1) := by
  show (L.map (fun e => ((.string e.1, .lit (.int .u64 e.2)) : Lit × DataW H))).map (fun p => strOf p.1) = _
  rw [List.map_map]
  rfl

set_option maxRecDepth 100000 in
set_option maxHeartbeats 2000000 in
theorem kids1_in (n : Nat) (hn : 1 ≤ n) (l A' N Bf Ba A M : Nat) (L : Ents) (p : Bs) (wt clk rm : Int) (hks : ∀ e ∈ L, e.1.length ≤ 1000) (J Jx : List Bs → World → Prop)
    (hY : ∀ pre x W, J pre W → pre.length < L.length → YieldAt Fence.wide (n - 1) Tryz.prog l #[encStr x] W fun e W' =>
      (e = .returned (.bool true) ∧ J (pre ++ [x]) W' ∧ Kw A' N W W') ∨ (e = .returned (.bool false) ∧ Jx (pre ++ [x]) W'))
    (W : World) (hJ : AbidesFrom W.heap.size J) (hN : N ≤ W.heap.size) (cf : W.cell? ⟨Bf, 0, none⟩ = some (.pointer (some ⟨A, 0, none⟩))) (hE : ∀ W', Kf A' N W W' → W'.cell? ⟨Ba, 0, none⟩ = some (.string (mk (ahead p)))) (hF : Fb W A M wt clk rm) (hM : Mp W M L) (h0 : J [] W) :
    CallsIn Fence.wide n Tryz.prog 194 #[.func (.yield l) #[] #[], .pointer (some ⟨Bf, 0, none⟩), .pointer (some ⟨Ba, 0, none⟩)] W fun e W' => (∃ v, e = .returned v) ∧
      ((∃ ys : List Bs, ys.Perm (kidNames L p) ∧ J ys W') ∨ (∃ pre : List Bs, (∀ x ∈ pre, x ∈ kidNames L p) ∧ Jx pre W')) := by
  have c0 := hF.c0
  have HE := hide' hE
  have HY := hide' hY
  have HJ := hide' hJ
  have hzL : Maps.size (datum (blks L) : DataW Unit) = L.length := by rw [datum_size]; simp [blks]
  clear hE hY hJ hF
  refine callsIn_of_wp Tryz.func194 rfl trivial ?_ rfl
  simp only [Tryz.ntmps194, List.size_toArray, List.length_cons, List.length_nil, Nat.reduceAdd, Nat.reduceSub, Array.replicate_succ, Array.replicate_zero, List.push_toArray, List.append_toArray, List.nil_append, List.cons_append]
  gi_wp2_with (first
    | (gi_at_range; refine wpListIn_range_own _ rfl _ 75 rfl 9 59 key9 Tryz.underlying75 _ M L.length _ rfl hM ?_; intro w0 hrg0 hg0 hs0)
    | gi_in)
  go_frame
  gi_loopw [4, 5, 6] (fun _ _ _ wr => ∃ (left : Lit → Bool) (cnt : Nat) (ss : List Bs), wr.ranges Tryz.prog 9 ptrElem M W.heap.size L.length (datum (blks L)) left cnt ∧ ss.length + cnt ≤ L.length ∧ Collected (datum (blks L) : DataW Unit) left ss ∧ Kf A' N W wr ∧ J (ss.filterMap (kidOf p)) wr)
    (fun _ _ _ wr => wr.rangeLeft M W.heap.size)
  case atStart =>
    exact ⟨_, _, [], hrg0, by rw [hzL]; simp, Collected.start _, ⟨hg0.size, fun k hk _ => hg0.block k (by omega) (by simp)⟩, HJ.out [] W w0 none h0 hg0 (fun r e => by cases e)⟩
  case round =>
    obtain ⟨left, cnt, ss, hrg, hcs, hC, hKf, hJs⟩ := hrel
    gi_wp2_with (first
      | (gi_at_next; refine wpListIn_next_ranges _ rfl _ rfl 9 key9 ptrElem encStr id (fun key kl hk => by obtain ⟨x, hx, _⟩ := Maps.keyOf_str Tryz.underlying9 hk; exact ⟨x, hx⟩) (fun v _ _ => ⟨v, rfl⟩) M W.heap.size L.length _ _ _ rfl hrg ?_ ?_)
      | gi_in)
    · intro hc0 hl0
      gi_wp2
      go_end0
      refine ⟨⟨_, rfl⟩, .inl ⟨ss.filterMap (kidOf p), ?_, hJs⟩⟩
      have hp := hC.perm hrg.owns key9 Tryz.underlying9 hl0
      rw [datum_keys] at hp
      have e1 : kidNames L p = ((blks L).map (·.1)).filterMap (kidOf p) := by unfold kidNames blks; rw [List.map_map]; rfl
      rw [e1]
      exact hp.filterMap _
    · intro x c kl yd yp w2 cnt2 hkey hlk hv hat hrg2 hlt hg2 hs2 hen
      obtain ⟨x', ex, rfl, _⟩ := Maps.keyOf_str Tryz.underlying9 hkey
      obtain rfl : x = x' := encStr_inj ex
      obtain ⟨b, hxb⟩ := datum_has (blks L) x (has_true_of_atKey hat)
      have hxm : ∃ e, (x, e) ∈ L := by
        unfold blks at hxb
        obtain ⟨e, he, hee⟩ := List.mem_map.1 hxb
        simp only [Prod.mk.injEq] at hee
        exact ⟨e.2, by rw [← hee.1]; exact he⟩
      obtain ⟨en, hxm⟩ := hxm
      have hxl : x.length ≤ 1000 := hks _ hxm
      have hC2 := hC.step hlk hat
      have hKf2 : Kf A' N W w2 := hKf.t ⟨hg2.size, fun k hk _ => hg2.block k (by have := hKf.1; omega) (fun e => by have := Option.some.inj e; omega)⟩
      have ca := HE.out w2 hKf2
      have hJ2 : J (ss.filterMap (kidOf p)) w2 := HJ.out _ wr w2 (some W.heap.size) hJs hg2 (fun r e => by cases e; exact ⟨Nat.le_refl _, hrg.iter_walk⟩)
      have q1 := Tryz.strings_CutPrefix (mk x) (mk (ahead p)) w2
      rw [show (mk x).data.toList = x from tl_mk x, show (mk (ahead p)).data.toList = ahead p from tl_mk _, hasPrefix_is] at q1
      have hfm : (ss ++ [x]).filterMap (kidOf p) = ss.filterMap (kidOf p) ++ (match kidOf p x with | some y => [y] | none => []) := by
        rw [List.filterMap_append]
        congr 1
        rw [List.filterMap_cons, List.filterMap_nil]
        cases kidOf p x <;> rfl
      clear hs2 hkey hv hxb ex
      cases hpre : (ahead p).isPrefixOf x with
      | false =>
        rw [kids_no1 hpre, List.append_nil] at hfm
        rw [hpre] at q1
        generalize Lib.trimPrefix x (ahead p) = y at q1
        gi_wp2_with (refine ⟨trivial, ?_⟩; gi_at_call 148; refine (callsIn_wide.2 q1).mono ?_; rintro e w3 ⟨rfl, hw3⟩; rw [hw3]; clear hw3)
        refine ⟨trivial, ?_⟩
        gi_wp2
        refine ⟨trivial, ?_⟩
        gi_wp2
        refine ⟨fun _ h => (by cases h), ?_⟩
        gi_wp2
        go_roundw
        case rel => exact ⟨_, cnt2, ss ++ [x], hrg2, by simp; omega, hC2, hKf2, by rw [hfm]; exact hJ2⟩
        case measure => rw [hrg2.left_eq, hrg.left_eq]; exact hlt
      | true =>
        rw [hpre, trim_drop x (ahead p) (by rw [hasPrefix_is]; exact hpre)] at q1
        obtain ⟨y, hy⟩ : ∃ y, y = x.drop (ahead p).length := ⟨_, rfl⟩
        have hyl : y.length ≤ 1000 := by rw [hy, List.length_drop]; omega
        have q2 := Tryz.strings_Contains_one (mk y) 47 w2
        rw [show (mk y).data.toList = y from tl_mk y, indexByte_has] at q2
        have q3 := clone_any (mk y) w2 (by rw [mk_size]; omega)
        rw [← hy] at q1
        cases hc : y.contains 47 with
        | true =>
          have hk : kidOf p x = none := kids_no2 (by rw [← hy]; exact hc)
          rw [hk, List.append_nil] at hfm
          rw [hc] at q2
          clear hy hc q3 hpre
          gi_wp2_with (first | (refine ⟨trivial, ?_⟩; gi_at_call 148; refine (callsIn_wide.2 q1).mono ?_; rintro e w3 ⟨rfl, hw3⟩; rw [hw3]; clear hw3) | (refine ⟨trivial, ?_⟩; gi_at_call 195; refine (callsIn_wide.2 q2).mono ?_; rintro e w3 ⟨rfl, hw3⟩; rw [hw3]; clear hw3))
          refine ⟨trivial, ?_⟩
          gi_wp2
          refine ⟨fun _ h => (by cases h), ?_⟩
          gi_wp2
          go_roundw
          case rel => exact ⟨_, cnt2, ss ++ [x], hrg2, by simp; omega, hC2, hKf2, by rw [hfm]; exact hJ2⟩
          case measure => rw [hrg2.left_eq, hrg.left_eq]; exact hlt
        | false =>
          have hk : kidOf p x = some y := by rw [hy]; exact kids_yes hpre (by rw [← hy]; exact hc)
          rw [hk] at hfm
          rw [hc] at q2
          have hlen : (ss.filterMap (kidOf p)).length < L.length := by have := List.length_filterMap_le (kidOf p) ss; omega
          clear hy hc hpre
          gi_wp2_with (first | (refine ⟨trivial, ?_⟩; gi_at_call 148; refine (callsIn_wide.2 q1).mono ?_; rintro e w3 ⟨rfl, hw3⟩; rw [hw3]; clear hw3) | (refine ⟨trivial, ?_⟩; gi_at_call 195; refine (callsIn_wide.2 q2).mono ?_; rintro e w3 ⟨rfl, hw3⟩; rw [hw3]; clear hw3))
          refine ⟨trivial, ?_⟩
          refine (callsIn_wide.2 q3).mono ?_
          rintro e w3 ⟨rfl, hb3⟩
          have hrg3 := hrg2.kept (below_grown (r := none) hb3) (by simp) (by simp)
          have hKf3 : Kf A' N W w3 := hKf2.t (Kf.below hb3 (by have := hKf2.1; omega))
          have hJ3 : J (ss.filterMap (kidOf p)) w3 := HJ.out _ w2 w3 none hJ2 (below_grown hb3) (fun r e => by cases e)
          obtain ⟨fn, tmps, assign, body, hy, hRd⟩ := HY.out _ y w3 hJ3 hlen
          dsimp only [encStr] at hy
          gi_wp2
          refine hRd.mono ?_
          rintro e W4 (⟨rfl, hJ4, hk4⟩ | ⟨rfl, hJx4⟩)
          · gi_wp2
            have hrg4 := hrg3.of_walks hk4.2
            go_roundw
            case rel => exact ⟨_, cnt2, ss ++ [x], hrg4, by simp; omega, hC2, hKf3.t hk4.1, by rw [hfm]; exact hJ4⟩
            case measure => rw [hrg4.left_eq, hrg.left_eq]; exact hlt
          · gi_wp2
            refine bodyPost_ret (results_none rfl _ _ _) rfl ?_
            refine ⟨⟨_, rfl⟩, .inr ⟨_, fun z hz => ?_, hJx4⟩⟩
            have hz2 : z ∈ (ss ++ [x]).filterMap (kidOf p) := by rw [hfm]; exact hz
            obtain ⟨q, hq, hqz⟩ := List.mem_filterMap.1 hz2
            refine List.mem_filterMap.2 ⟨q, ?_, hqz⟩
            obtain ⟨b', hb'⟩ := datum_has (blks L) q ((hC2.2 q).1 hq).1
            unfold blks at hb'
            obtain ⟨e', he', hee'⟩ := List.mem_map.1 hb'
            simp only [Prod.mk.injEq] at hee'
            exact List.mem_map.2 ⟨e', he', hee'.1⟩
/-- the names in a directory, in some order, while what is read is kept -/
theorem kids_stops (n : Nat) (hn : 1 ≤ n) (A' N Bf Ba A M : Nat) (L : Ents) (p : Bs) (wt clk rm : Int) (hks : ∀ e ∈ L, e.1.length ≤ 1000) (w : World) (hN : N ≤ w.heap.size) (cf : w.cell? ⟨Bf, 0, none⟩ = some (.pointer (some ⟨A, 0, none⟩))) (hBf : Bf < w.heap.size)
    (hE : ∀ W', Kf A' N w W' → W'.cell? ⟨Ba, 0, none⟩ = some (.string (mk (ahead p)))) (hF : Fb w A M wt clk rm) (hM : Mp w M L) :
    SeqStopsK Fence.wide n Tryz.prog 194 #[.pointer (some ⟨Bf, 0, none⟩), .pointer (some ⟨Ba, 0, none⟩)] (fun x : Bs => #[encStr x]) (Kw A' N) (fun ys => ys.Perm (kidNames L p)) (fun pre => ∀ x ∈ pre, x ∈ kidNames L p) L.length w := fun l J Jx W hW hJ _ hY h0 =>
  kids1_in n hn l A' N Bf Ba A M L p wt clk rm hks J Jx hY W hJ (Nat.le_trans hN hW.size) ((hW.cell (p := ⟨Bf, 0, none⟩) hBf).trans cf) (fun W' h => hE W' ((Kf.below hW hN).t h)) (hF.kept (hW.block A hF.lt)) (hM.kept (hW.block M hM.lt)) h0
end Go.Proofs.YtbfchadcpokjoaaGreatDoor
namespace Go.Proofs.YtbfchadcpokjoaaGreatDoor
open Go.RowKit Go.Shelf Go.Maps
attribute [local go_sem] Oper.semAt_some

def FlI (w : World) (R : Nat) (pre : List Bs) (W : World) : Prop := pre = [] ∧ Below w.heap.size w W ∧ Boxed W R 4 (.bool false)
def FlX (w : World) (R : Nat) (c : Code) (pre : List Bs) (W : World) : Prop := c = .ret ∧ pre ≠ [] ∧ Below w.heap.size w W ∧ Boxed W R 4 (.bool true)
theorem flI_own {w : World} {R B : Nat} (hw : w.heap.size ≤ B) : OwnFrom B (FlI w R) := by
  intro s W W' row hs hg hr
  obtain ⟨h1, h2, h3⟩ := hs
  exact ⟨h1, h2.grown hg h2.size (fun k e => by have := (hr k e).1; omega), box_own h3 hg (fun r e => (hr r e).2)⟩
theorem flX_own {w : World} {R B : Nat} (hw : w.heap.size ≤ B) (c : Code) : OwnFrom B (FlX w R c) := by
  intro s W W' row hs hg hr
  obtain ⟨h1, h0, h2, h3⟩ := hs
  exact ⟨h1, h0, h2.grown hg h2.size (fun k e => by have := (hr k e).1; omega), box_own h3 hg (fun r e => (hr r e).2)⟩

set_option maxRecDepth 100000 in
set_option maxHeartbeats 2000000 in
theorem filled_any (A M : Nat) (L : Ents) (wt clk rm : Int) (p : Bs) (w : World) (h : FsAt w A M L wt clk rm) (hp : p.length ≤ 1000000) :
    Calls Tryz.prog 154 #[.pointer (some ⟨A, 0, none⟩), .string (mk p)] w fun r w' => r = .returned (.bool (!(kidNames L p).isEmpty)) ∧ Below w.heap.size w w' := by
  refine (callsIn_wide (n := 5)).1 ?_
  refine callsIn_of_wp_marks Tryz.func154 rfl trivial ?_ rfl
  simp only [Tryz.ntmps154, List.size_toArray, List.length_cons, List.length_nil, Nat.reduceAdd, Nat.reduceSub, Array.replicate_succ, Array.replicate_zero, List.push_toArray, List.append_toArray, List.nil_append, List.cons_append]
  gi_wp2_with (refine ⟨trivial, ?_⟩; gi_at_call 178; refine (callsIn_wide.2 (kids_any A p hp _)).mono ?_; rintro e w' ⟨rfl, rfl⟩)
  obtain ⟨W0, hW0⟩ : ∃ W0, W0 = ((w.alloc (.cells #[.bool false] 4)).alloc (.cells #[.pointer (some ⟨A, 0, none⟩)] 36)).alloc (.cells #[.string (mk (ahead p))] 9) := ⟨_, rfl⟩
  rw [← hW0]
  have hz0 : W0.heap.size = w.heap.size + 3 := by rw [hW0]; simp
  have hB0 : Below w.heap.size w W0 := by rw [hW0]; exact (((Below.refl _ w).alloc (Nat.le_refl _) _).alloc (by simp) _).alloc (by simp; omega) _
  have bR : Boxed W0 w.heap.size 4 (.bool false) := by rw [hW0]; exact ((Boxed.new w 4 _).alloc _).alloc _
  have bF : Boxed W0 (w.heap.size + 1) 36 (.pointer (some ⟨A, 0, none⟩)) := by
    have := (Boxed.new (w.alloc (.cells #[.bool false] 4)) 36 (.pointer (some ⟨A, 0, none⟩))).alloc (.cells #[.string (mk (ahead p))] 9)
    rw [World.size_alloc] at this
    rw [hW0]; exact this
  have bA : Boxed W0 (w.heap.size + 1 + 1) 9 (.string (mk (ahead p))) := by
    have := Boxed.new ((w.alloc (.cells #[.bool false] 4)).alloc (.cells #[.pointer (some ⟨A, 0, none⟩)] 36)) 9 (.string (mk (ahead p)))
    rw [World.size_alloc, World.size_alloc] at this
    rw [hW0]; exact this
  have hF0 := h.below hB0
  have hE : ∀ W', Kf w.heap.size W0.heap.size W0 W' → W'.cell? ⟨w.heap.size + 1 + 1, 0, none⟩ = some (.string (mk (ahead p))) := fun W' h => (kf_box h bA (by omega) (by omega)).cell
  clear hW0 bA
  refine wpIn_rangeFunc_ownG rfl (by decide) (gf := 194) (lb := #[.pointer (some ⟨w.heap.size + 1, 0, none⟩), .pointer (some ⟨w.heap.size + 1 + 1, 0, none⟩)]) rfl trivial (enters_of Tryz.func194 (by kernel_rfl) rfl)
    (kids_stops 4 (by decide) w.heap.size W0.heap.size (w.heap.size + 1) (w.heap.size + 1 + 1) A M L p wt clk rm h.keys W0 (Nat.le_refl _) bF.cell (by omega) hE hF0.fb hF0.mp) (fun h k => Kw.t h k) (fun W l o o' hl ho _ hw => ⟨Kf.b W l o' hl, walksK_b (w := W0) W l o o' hl ho (by assumption) hw⟩) (Below.refl _ _) (fun _ => rfl)
    (FlI w w.heap.size) (FlX w w.heap.size) (flI_own (by omega)) (flX_own (by omega))
    ⟨rfl, hB0, bR⟩
    (fun x => { tmps := #[.pointer (some ⟨A, 0, none⟩), .string (mk p), undef, undef, .pointer (some ⟨w.heap.size, 0, none⟩), .pointer (some ⟨A, 0, none⟩), .string (mk p), .func (.func 194) #[] #[.pointer (some ⟨w.heap.size + 1, 0, none⟩), .pointer (some ⟨w.heap.size + 1 + 1, 0, none⟩)], encStr x], defers := [] }) ?assign ?body ?done ?stop
  case assign =>
    intro l x W K hK
    gi_wp2
    simpa using hK
  case body =>
    rintro l pre x W ⟨hpre, hBW, hbr⟩ hlt
    have c0 := hbr.cell
    have f0 := hbr.frozen
    gi_wp2
    exact ⟨(KeepsOthers.setCell _ _ _).from _, rfl, by simp, hBW.setCell (p := ⟨w.heap.size, 0, none⟩) (Nat.le_refl _) _, hbr.set _⟩
  case done =>
    rintro D ys W hD hys ⟨hpre, hBW, hbr⟩ hK
    subst hpre
    have hk : kidNames L p = [] := List.nil_perm.1 hys
    have c0 := hbr.cell
    have f0 := hbr.frozen
    gi_wp2
    have hb' : Boxed (W.setCell ⟨w.heap.size, 0, none⟩ (.bool false)) w.heap.size 4 (.bool false) := hbr.set _
    have hK' : (W.setCell ⟨w.heap.size, 0, none⟩ (.bool false)).heap[D]? = some (.deferred (some [])) := (Below.heap_setCell _ _ _ _ (by show D ≠ w.heap.size; omega)).trans hK
    have hB' : Below w.heap.size w (W.setCell ⟨w.heap.size, 0, none⟩ (.bool false)) := hBW.setCell (p := ⟨w.heap.size, 0, none⟩) (Nat.le_refl _) _
    generalize W.setCell ⟨w.heap.size, 0, none⟩ (.bool false) = X at hb' hK' hB'
    refine ⟨by simp, .inl ⟨_, _, rfl, run_takeDeferred hK', ?_⟩⟩
    have hbr2 := box_own hb' (grownBy_putObj' X D (.deferred none)) (fun r e => by cases e; exact ⟨_, hK', rfl⟩)
    have c2 := hbr2.cell
    refine ⟨.bool false, by simp [results, Tryz.results154, go_sem, c2], ?_, hB'.grown (grownBy_putObj' X D (.deferred none)) hB'.size (fun k e => by cases e; omega)⟩
    rw [hk]; rfl
  case stop =>
    rintro D c pre W hD hpre ⟨rfl, hne, hBW, hbr⟩ hK
    gi_wp2
    refine ⟨by simp, .inl ⟨_, _, rfl, run_takeDeferred hK, ?_⟩⟩
    have hbr2 := box_own hbr (grownBy_putObj' W D (.deferred none)) (fun r e => by cases e; exact ⟨_, hK, rfl⟩)
    have c2 := hbr2.cell
    refine ⟨.bool true, by simp [results, Tryz.results154, go_sem, c2], ?_, hBW.grown (grownBy_putObj' W D (.deferred none)) hBW.size (fun k e => by cases e; omega)⟩
    cases pre with
    | nil => exact absurd rfl hne
    | cons x r =>
      have := hpre x (by simp)
      cases hk : kidNames L p with
      | nil => rw [hk] at this; cases this
      | cons _ _ => rfl
end Go.Proofs.YtbfchadcpokjoaaGreatDoor
