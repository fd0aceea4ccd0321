import Derived.Test.YtabmnkddmdffkaaGreatDoorALookG
import Derived.Sort.KeysCollected
import Derived.Sort.MapsRangeIn
import Derived.RangeFuncStops
import Derived.Orders
import Derived.RegionCalls
import Derived.Test.YtabmnkddmdffkaaGreatDoorAPubG
namespace Go.Proofs.YtabmnkddmdffkaaGreatDoor
open Go.RowKit Go.Maps
def ahead (p : Bs) : Bs := if p = [] then [] else p ++ [47]
theorem datum_has {H : Type} (L : List (Bs × Nat)) (x : Bs) (h : Maps.has (datum L : DataW H) (.string x) = true) : ∃ b, (x, b) ∈ L := by
 unfold datum at h
 rw [has_eq, List.any_map, List.any_eq_true] at h
 obtain ⟨e, he, hs⟩ := h
 have : e.1 = x := by simpa [Lit.sameKey] using hs
 exact ⟨e.2, by rw [← this]; exact he⟩
theorem datum_keys {H : Type} (L : List (Bs × Nat)) : strKeys (datum L : DataW H) = L.map (·.1) := by
 show (L.map (fun e => ((.string e.1, .lit (.int .u64 e.2)) : Lit × DataW H))).map (fun p => strOf p.1) = _
 rw [List.map_map]
 rfl
end Go.Proofs.YtabmnkddmdffkaaGreatDoor
namespace Go.Proofs.YtabmnkddmdffkaaGreatDoor
open Go
section
variable {P : Program} {md : Region.Mode} {ops : Array Oper} {Q : Exit → Act → World → Prop} {C : World → Prop}
def wpAnyC (P : Program) (md : Region.Mode) (ops : Array Oper) (C : World → Prop) (Q : Exit → Act → World → Prop) : Nat → Array Bool → Act → World → Prop
 | 0, listed, a, w => Region.ready md ops listed = [] ∧ Q .normal a w
 | fuel + 1, listed, a, w => (Region.ready md ops listed = [] → Q .normal a w) ∧ ∀ i ∈ Region.ready md ops listed, wpOp P ops Q i (fun a' w' => C w' ∧ wpAnyC P md ops C Q fuel (listed.setIfInBounds i true) a' w') a w
theorem wpAny_of_C : ∀ (fuel : Nat) (listed : Array Bool) (a : Act) (w : World), wpAnyC P md ops C Q fuel listed a w → wpAny P md ops Q fuel listed a w
 | 0, _, _, _, h => h
 | fuel + 1, _, _, _, h => ⟨h.1, fun i hi => wpOp_mono (fun a' w' h' => wpAny_of_C fuel _ a' w' h'.2) (h.2 i hi)⟩
def YieldsC (P : Program) (ops : Array Oper) (C : World → Prop) (o : Oper) (v : Value) (a : Act) : Prop :=
 (Region.wanted o (yielded ops a.tmps) = true ∧ ∀ w, C w → (execOp a.eval o).run P w = .ok (.value v) w) ∨ (Region.wanted o (yielded ops a.tmps) = false ∧ v = undef)
theorem YieldsC.wpOp {i : Nat} {o : Oper} {v : Value} {a : Act} (hi : ops[i]? = some o) (hy : YieldsC P ops C o v a) {K : Act → World → Prop} {w : World} (hw : C w) (h : K (a.put o.dst v) w) : wpOp P ops Q i K a w := by
 unfold Go.wpOp
 simp only [hi]
 rcases hy with ⟨hw1, hv⟩ | ⟨hw1, rfl⟩
 ·simp only [hw1, if_true, Oper.wp, hv w hw, Oper.upon]; exact .inl h
 ·simp only [hw1, Bool.false_eq_true, if_false]; exact h
theorem YieldsC.of_same {o : Oper} {v : Value} {a a' : Act} (hy : YieldsC P ops C o v a) (he : execOp a'.eval o = execOp a.eval o) (hw : Region.wanted o (yielded ops a'.tmps) = Region.wanted o (yielded ops a.tmps)) : YieldsC P ops C o v a' := by
 unfold YieldsC at *
 rw [he, hw]
 exact hy
theorem wpOp_putC {j : Nat} {oi oj : Oper} {v : Value} (hj : ops[j]? = some oj) (hap : oi.apart ops oj = true) (hsi : ∀ cs b, oi.op ≠ .select cs b) (hsj : ∀ cs b, oj.op ≠ .select cs b)
  (hQ : ∀ c a w, Q (.panic c) (a.put oi.dst v) w → Q (.panic c) a w) {K : Act → World → Prop} {a : Act} {w : World} (hy : YieldsC P ops C oi v a) (h : wpOp P ops Q j K (a.put oi.dst v) w) :
  wpOp P ops Q j (fun a' w' => YieldsC P ops C oi v a' ∧ K (a'.put oi.dst v) w') a w := by
 obtain ⟨h1, h2, h3⟩ := Oper.apart_spec hap
 have keep : ∀ (a : Act), YieldsC P ops C oi v a → ∀ u, YieldsC P ops C oi v (a.put oj.dst u) := fun a hy u => hy.of_same (execOp_put oi hsi a oj.dst u h3) (wanted_put oi a oj.dst u h3)
 have keepD : ∀ d, YieldsC P ops C oi v { a with defers := d :: a.defers } := fun d => hy.of_same rfl rfl
 unfold wpOp at *
 simp only [hj] at *
 rw [wanted_put oj a oi.dst v h1] at h
 split
 ·rename_i hw
  simp only [hw, if_true] at h
  rcases h with h | ⟨hasks, hlets⟩
  case inr => exact .inr ⟨by unfold Oper.asks at *; rw [execOp_put oj hsj a oi.dst v h1] at hasks; exact hasks, hlets⟩
  refine .inl ?_
  unfold Oper.wp at *
  rw [execOp_put oj hsj a oi.dst v h1] at h
  generalize (execOp a.eval oj).run P w = r at *
  cases r with
  | ok n w' =>
   cases n <;> simp only [Oper.upon] at h ⊢
   case value u => exact ⟨keep a hy u, by rw [← Act.put_comm a v u h2]; exact h⟩
   case skip => exact ⟨keep a hy _, by rw [← Act.put_comm a v undef h2]; exact h⟩
   case defer d =>
    refine ⟨keep _ (keepD d) _, ?_⟩
    rw [← Act.put_comm _ v undef h2, ← Act.put_defers]
    exact h
   case enter f args =>
    refine Calls.mono h fun e w'' he => ?_
    cases e with
    | returned u => exact ⟨keep a hy u, by rw [← Act.put_comm a v u h2]; exact he⟩
    | panicked c => exact hQ _ _ _ he
    | outgrown => exact he
   case row row args => exact Rows.mono h fun u w'' he => ⟨keep a hy u, by rw [← Act.put_comm a v u h2]; exact he⟩
  | halt x w' =>
   cases x <;> simp only [Oper.upon] at h ⊢
   case panic u => exact hQ _ _ _ h
 ·rename_i hw
  simp only [hw] at h
  exact ⟨keep a hy _, by rw [← Act.put_comm a v undef h2]; exact h⟩
theorem wpAnyC_first {i : Nat} {oi : Oper} {v : Value} (hi : ops[i]? = some oi) (hsel : ∀ (j : Nat) (o : Oper) cs b, ops[j]? = some o → o.op ≠ .select cs b) (hQ : ∀ c a w, Q (.panic c) (a.put oi.dst v) w → Q (.panic c) a w) :
  ∀ (fuel : Nat) (listed : Array Bool) (a : Act) (w : World), C w →
   (∀ j oj, ops[j]? = some oj → j ≠ i → listed.getD j true = false → (∀ e ∈ oj.after, Region.binds md e = true → e.on ≠ i) → oi.apart ops oj = true) →
   i ∈ Region.ready md ops listed → YieldsC P ops C oi v a →
   wpAnyC P md ops C Q fuel (listed.setIfInBounds i true) (a.put oi.dst v) w → wpAnyC P md ops C Q (fuel + 1) listed a w := by
 intro fuel
 induction fuel with
 | zero =>
  intro listed a w hc _ hr hy H
  refine ⟨fun h => (by rw [h] at hr; cases hr), fun j hj => ?_⟩
  by_cases hji : j = i
  ·subst hji; exact hy.wpOp hi hc ⟨hc, H⟩
  ·have := ready_mono hj hji
   rw [H.1] at this
   cases this
 | succ fuel ih =>
  intro listed a w hc hfree hr hy H
  refine ⟨fun h => (by rw [h] at hr; cases hr), fun j hj => ?_⟩
  by_cases hji : j = i
  ·subst hji; exact hy.wpOp hi hc ⟨hc, H⟩
  ·have h1 := H.2 j (ready_mono hj hji)
   obtain ⟨hjun, oj, hoj, hall⟩ := mem_ready.1 hj
   have hnot : ∀ e ∈ oj.after, Region.binds md e = true → e.on ≠ i := fun e he hb heq => by
    have h1 := hall e he hb
    have h0 := (mem_ready.1 hr).1
    rw [heq] at h1
    rcases Nat.lt_or_ge i listed.size with h' | h'
    ·simp [h'] at h0 h1; rw [h0] at h1; cases h1
    ·simp [Array.getElem?_eq_none h'] at h1
   have h2 := wpOp_putC hoj (hfree j oj hoj hji hjun hnot) (fun cs b => hsel i oi cs b hi) (fun cs b => hsel j oj cs b hoj) hQ hy h1
   have hfree' : ∀ k ok, ops[k]? = some ok → k ≠ i → (listed.setIfInBounds j true).getD k true = false → (∀ e ∈ ok.after, Region.binds md e = true → e.on ≠ i) → oi.apart ops ok = true := fun k ok hk hki hun hno => by
    refine hfree k ok hk hki ?_ hno
    by_cases hjk : j = k
    ·subst hjk; exact hjun
    ·rw [getD_set_ne true hjk] at hun; exact hun
   refine wpOp_mono (fun a' w' h3 => ⟨h3.2.1, ih (listed.setIfInBounds j true) a' w' h3.2.1 hfree' (ready_mono hr (Ne.symm hji)) h3.1 ?_⟩) h2
   rw [Array.setIfInBounds_comm _ _ hji]
   exact h3.2.2
theorem wpAnyC_take {i : Nat} {oi : Oper} {v : Value} {fuel : Nat} {listed : Array Bool} {a : Act} {w : World} (hc : C w) (hi : ops[i]? = some oi) (hs : Region.noSelect ops = true) (hf : Region.free md ops listed i = true) (hr : (Region.ready md ops listed).contains i = true)
  (hQ : ∀ c a w, Q (.panic c) (a.put oi.dst v) w → Q (.panic c) a w) (hy : YieldsC P ops C oi v a) (h : wpAnyC P md ops C Q fuel (listed.setIfInBounds i true) (a.put oi.dst v) w) : wpAnyC P md ops C Q (fuel + 1) listed a w :=
 wpAnyC_first hi (Region.noSelect_spec hs) hQ fuel listed a w hc (Region.free_spec hi hf) (by simpa using hr) hy h
theorem wpAnyC_one {i : Nat} {fuel : Nat} {listed : Array Bool} {a : Act} {w : World} (hr : Region.ready md ops listed = [i]) (h : wpOp P ops Q i (fun a' w' => C w' ∧ wpAnyC P md ops C Q fuel (listed.setIfInBounds i true) a' w') a w) : wpAnyC P md ops C Q (fuel + 1) listed a w :=
 ⟨fun h0 => absurd (hr ▸ h0) (by simp), fun j hj => by rw [hr, List.mem_singleton] at hj; subst hj; exact h⟩
theorem wpAnyC_done {listed : Array Bool} {a : Act} {w : World} (hr : Region.ready md ops listed = []) (h : Q .normal a w) : ∀ fuel, wpAnyC P md ops C Q fuel listed a w
 | 0 => ⟨hr, h⟩
 | _ + 1 => ⟨fun _ => h, by rw [hr]; simp⟩
theorem wp_region_class {id : Nat} {a : Act} {w : World} (hm : P.follows .mixedOrders = true) (h : wpAnyC P .any ops C Q ops.size (Array.replicate ops.size false) a w.drew) : (Code.region id ops true).wp P Q a w :=
 wp_region_any hm (wpAny_of_C _ _ _ _ h)
theorem wpOp_wanted {i : Nat} {o : Oper} {K : Act → World → Prop} {a : Act} {w : World} (hi : ops[i]? = some o) (hw : Region.wanted o (yielded ops a.tmps) = true) (h : o.wp P a w K Q) : wpOp P ops Q i K a w := by
 unfold Go.wpOp
 simp only [hi, hw, if_true]
 exact .inl h
end
end Go.Proofs.YtabmnkddmdffkaaGreatDoor
namespace Go.Proofs.YtabmnkddmdffkaaGreatDoor
open Go.RowKit Go.Maps
theorem srt_ext {α : Type} : ∀ {L L' : List (Bs × α)}, Srt L → Srt L' → (∀ p, fnd L p = fnd L' p) → L = L'
 | [], [], _, _, _ => rfl
 | [], y :: r, _, _, h => by have := h y.1; rw [fnd_cons, if_pos rfl] at this; cases this
 | y :: r, [], _, _, h => by have := h y.1; rw [fnd_cons, if_pos rfl] at this; cases this
 | x :: r, y :: s, h1, h2, h => by
  obtain ⟨a1, a2⟩ := List.pairwise_cons.1 h1
  obtain ⟨b1, b2⟩ := List.pairwise_cons.1 h2
  have key : x.1 = y.1 := by
   rcases before_total x.1 y.1 with q | q | q
   ·have := h x.1
    rw [fnd_cons, if_pos rfl] at this
    have hm := fnd_mem this.symm
    rcases List.mem_cons.1 hm with e | e
    ·rw [← e] at q; rw [before_irrefl] at q; cases q
    ·have := before_trans _ _ _ q (b1 _ e); rw [before_irrefl] at this; cases this
   ·exact q
   ·have := h y.1
    rw [fnd_cons (x := y), if_pos rfl] at this
    have hm := fnd_mem this
    rcases List.mem_cons.1 hm with e | e
    ·rw [← e] at q; rw [before_irrefl] at q; cases q
    ·have := before_trans _ _ _ q (a1 _ e); rw [before_irrefl] at this; cases this
  have hv : x.2 = y.2 := by
   have := h x.1
   rw [fnd_cons, if_pos rfl, fnd_cons, if_pos key.symm] at this
   exact Option.some.inj this
  have hrest : r = s := by
   refine srt_ext a2 b2 fun p => ?_
   have := h p
   rw [fnd_cons, fnd_cons] at this
   by_cases e : x.1 = p
   ·have n1 : fnd r p = none := fnd_none_of fun z hz e2 => before_ne (a1 z hz) (e.trans e2.symm)
    have n2 : fnd s p = none := fnd_none_of fun z hz e2 => before_ne (b1 z hz) (key.symm.trans (e.trans e2.symm))
    rw [n1, n2]
   ·rw [if_neg e, if_neg (fun e2 => e (key.trans e2))] at this
    exact this
  rw [hrest]
  congr 1
  exact Prod.ext key hv
def Copied (L : Ents) (ss : List Bs) (L2 : Ents) : Prop := ∀ p, fnd (nds L2) p = if p ∈ ss then fnd (nds L) p else none
theorem Copied.step {L L2 : Ents} {ss : List Bs} (h : Copied L ss L2) {x : Bs} {e e2 : En} (hf : fnd L x = some e) (hn : e2.nd = e.nd) : Copied L (ss ++ [x]) (put L2 x e2) := by
 intro p
 rw [nds_put]
 by_cases hp : p = x
 ·subst hp
  rw [fnd_put_same, if_pos (by simp), nds_fnd, hf, hn]; rfl
 ·rw [fnd_put_other _ _ (Ne.symm hp), h p]
  by_cases hs : p ∈ ss
  ·rw [if_pos hs, if_pos (by simp [hs])]
  ·rw [if_neg hs, if_neg (by simp [hs, hp])]
theorem run_mk66 (n : Int) (w : World) : (Instr.makeMap 92 (some (.int .i64 n))).run Tryz.prog w = .ok (.map (some w.heap.size)) (w.alloc (.map #[] 0)) := by
 simp [Instr.makeMap, run_underlying Tryz.underlying92, asInt, asIntOf, Result.andThen]
structure TwC (b G M2 : Nat) (d : Bool) (t : Int) (dv : Value) (w : World) : Prop where
 c0 : w.cell? ⟨b, 0, none⟩ = some (.bool d)
 c1 : w.cell? ⟨b, 1, none⟩ = some (.int .i64 t)
 c2 : w.cell? ⟨b, 2, none⟩ = some dv
 cg : w.cell? ⟨G, 0, none⟩ = some (.map (some M2))
theorem alloc_new (w : World) (o : Obj) : (w.alloc o).heap[w.heap.size]? = some o := by show (w.heap.push o)[w.heap.size]? = some o; simp
theorem tw_put {W : World} {b0 G M2 : Nat} {L2 : Ents} {wt clk rm : Int} {x bs : Bs} {d : Bool} {t : Int} {v' : Value} (hf : FsAt W G M2 L2 wt clk rm) (ho : Own W (fun i => b0 ≤ i) G M2 L2) (hx : x.length ≤ 1000) (hd : Dat W v' bs)
  (hn : ∀ g, v'.ownBlock = some g → b0 ≤ g ∧ ∀ y ∈ L2, y.2.dv.ownBlock ≠ some g) (hb0 : b0 ≤ W.heap.size) {W2 : World} (hm : Mp W2 M2 (put L2 x ⟨W.heap.size, v', ⟨d, t, bs⟩⟩)) (hg : (W.alloc (.cells #[.bool d, .int .i64 t, v'] 99)).grownBy W2 (some M2)) :
  FsAt W2 G M2 (put L2 x ⟨W.heap.size, v', ⟨d, t, bs⟩⟩) wt clk rm ∧ Own W2 (fun i => b0 ≤ i) G M2 (put L2 x ⟨W.heap.size, v', ⟨d, t, bs⟩⟩) := by
 have hbl : Below W.heap.size W (W.alloc (.cells #[.bool d, .int .i64 t, v'] 99)) := (Below.refl _ _).alloc (Nat.le_refl _) _
 have hf1 := hf.below hbl
 have ho1 := ho.below hbl
 have hn1 : NodeAt (W.alloc (.cells #[.bool d, .int .i64 t, v'] 99)) ⟨W.heap.size, v', ⟨d, t, bs⟩⟩ := alloc_new _ _
 have hd1 : Dat (W.alloc (.cells #[.bool d, .int .i64 t, v'] 99)) v' bs := hd.kept fun g hg => hbl.block g (hd.lt g hg)
 have hne : M2 ≠ W.heap.size := fun e => by have := hf.mp.lt; omega
 have hMG := hf1.mp.ne hf1.fb
 have hn2 : NodeAt W2 ⟨W.heap.size, v', ⟨d, t, bs⟩⟩ := (hg.block W.heap.size (by simp) (fun e => hne (Option.some.inj e).symm)).trans hn1
 have hfb2 : Fb W2 G M2 wt clk rm := hf1.fb.kept (hg.block G hf1.fb.lt (fun e => hMG (Option.some.inj e).symm))
 obtain ⟨r1, r2⟩ := fs_put (w3 := W2) (t := t) hf1 (ho1.sub fun e he => (mem_del.1 he).1) hx hn1 hd1 (fun y hy e => by have := (hf.nodes y (mem_del.1 hy).1).lt; dsimp at e; omega)
  (fun y hy g hg e => (hn g e).2 y (mem_del.1 hy).1 hg) hfb2 hm hn2 (Turn.of_grown hg fun k hk => by cases hk; exact .inr (.inl rfl))
 refine ⟨r1, ⟨ho.sA, ho.sM, fun e he => ?_, fun e he g hg => ?_, r2.dat, r2.apB, r2.apD⟩⟩
 ·rcases r2.sB e he with q | q | q
  ·exact q
  ·rw [q]; exact hb0
  ·exact (hn _ q).1
 ·rcases r2.sD e he g hg with q | q | q
  ·exact q
  ·rw [q]; exact hb0
  ·exact (hn _ q).1
theorem TwC.below {b G M2 : Nat} {d : Bool} {t : Int} {dv : Value} {w w' : World} (h : TwC b G M2 d t dv w) (hb : Below w.heap.size w w') (h1 : b < w.heap.size) (h2 : G < w.heap.size) : TwC b G M2 d t dv w' :=
 ⟨(hb.cell (p := ⟨b, 0, none⟩) h1).trans h.c0, (hb.cell (p := ⟨b, 1, none⟩) h1).trans h.c1, (hb.cell (p := ⟨b, 2, none⟩) h1).trans h.c2, (hb.cell (p := ⟨G, 0, none⟩) h2).trans h.cg⟩
set_option maxRecDepth 100000 in
set_option maxHeartbeats 2000000 in
theorem Twin_any (A M : Nat) (L : Ents) (wt clk rm : Int) (w : World) (h : FsAt w A M L wt clk rm) (hll : L.length ≤ 1000000) (hsz : ∀ e ∈ L, e.2.nd.data.length ≤ 1099511627776) :
  Calls Tryz.prog 51 #[.pointer (some ⟨A, 0, none⟩)] w fun r w' => ∃ G M' L', r = .returned (.pointer (some ⟨G, 0, none⟩)) ∧ FsAt w' G M' L' wt clk rm ∧ Own w' (fun i => w.heap.size ≤ i) G M' L' ∧ nds L' = nds L ∧ Below w.heap.size w w' := by
 have c0 := h.fb.c0
 have c1 := h.fb.c1
 have c2 := h.fb.c2
 have c3 := h.fb.c3
 have hA := h.fb.lt
 have hMl := h.mp.lt
 have hmm := fun (w : World) => run_mk66 (L.length : Nat) w
 have hln := fun (ty : TypeId) (o : Obj) => Mp.len (w := w.alloc o) (M := M) (L := L) (h.mp.kept (Below.heap_alloc _ _ _ hMl)) ty
 have hzL : Maps.size (datum (blks L) : DataW Unit) = L.length := by rw [datum_size]; simp [blks]
 go_enter Tryz.func51, Tryz.ntmps51
 go_wp2_with fail
 refine (orEmpty_some A _).mono ?_
 rintro r w0 ⟨rfl, rfl⟩
 obtain ⟨w1, hw1⟩ : ∃ w1, w1 = (w0.alloc (.cells #[.map (some (w0.heap.size + 1)), .int .i64 wt, .int .i64 clk, .int .i64 rm] 94)).alloc (.map #[] 0) := ⟨_, rfl⟩
 have hmp1 : Mp w1 M L := by rw [hw1]; exact (h.mp.kept (Below.heap_alloc _ _ _ hMl)).kept (Below.heap_alloc _ _ _ (by simp; omega))
 have hsz1 : w1.heap.size = w0.heap.size + 2 := by rw [hw1]; simp
 have hb1 : Below w0.heap.size w0 w1 := by rw [hw1]; exact ((Below.refl _ _).alloc (Nat.le_refl _) _).alloc (by simp) _
 have hfs1 : FsAt w1 w0.heap.size (w0.heap.size + 1) [] wt clk rm :=
  ⟨by rw [hw1]; exact (Below.heap_alloc _ _ _ (by simp)).trans (alloc_new _ _), (by have := World.ownsMap_made (H := Unit) (w0.alloc (.cells #[.map (some (w0.heap.size + 1)), .int .i64 wt, .int .i64 clk, .int .i64 rm] 94)) Tryz.prog 9 ptrElem; rw [hw1]; simp at this; exact this), fun e he => (by cases he), fun e he => (by cases he), List.Pairwise.nil, fun e he => (by cases he)⟩
 have ho1 : Own w1 (fun i => w0.heap.size ≤ i) w0.heap.size (w0.heap.size + 1) [] := ⟨Nat.le_refl _, Nat.le_succ _, fun e he => (by cases he), fun e he => (by cases he), fun e he => (by cases he), fun e he => (by cases he), fun e he => (by cases he)⟩
 go_wp2_with (first
  | (at_range; rw [← hw1]; refine wpList_range_own _ rfl _ 92 rfl 9 97 key9 Tryz.underlying92 _ M L.length _ rfl hmp1 ?_; intro w2 hrg2 hg2 hs2)
  | fail)
 clear hmm hln
 have hb2 : Below w0.heap.size w0 w2 := hb1.grown hg2 (by omega) (fun k e => by cases e)
 have hbl2 : Below w1.heap.size w1 w2 := ⟨hg2.os, hg2.tape, hg2.output, hg2.size, fun k hk => hg2.block k hk (by simp)⟩
 go_wp2
 go_frame
 go_loopw [4, 5] (fun _ _ wr => ∃ (left : Lit → Bool) (cnt : Nat) (ss : List Bs) (L2 : Ents), wr.ranges Tryz.prog 9 ptrElem M w1.heap.size L.length (datum (blks L)) left cnt ∧ ss.length + cnt ≤ L.length ∧ Collected (datum (blks L) : DataW Unit) left ss ∧
   FsAt wr w0.heap.size (w0.heap.size + 1) L2 wt clk rm ∧ Own wr (fun i => w0.heap.size ≤ i) w0.heap.size (w0.heap.size + 1) L2 ∧ Copied L ss L2 ∧ L2.length ≤ ss.length ∧ Below w0.heap.size w0 wr) (fun _ _ wr => wr.rangeLeft M w1.heap.size)
 case atStart =>
  exact ⟨_, _, [], [], hrg2, by rw [hzL]; simp, Collected.start _, hfs1.below hbl2, ho1.below hbl2, fun p => by simp [nds, fnd_nil], Nat.le_refl _, hb2⟩
 case round =>
  obtain ⟨left, cnt, ss, L2, hrg, hcs, hC, hF, hO, hCp, hl2, hB⟩ := hrel
  go_wp2_with (first
   | (at_next; refine wpList_next_ranges _ rfl _ rfl 9 key9 ptrElem encStr id (fun key kl hk => by obtain ⟨x, hx, _⟩ := Maps.keyOf_str Tryz.underlying9 hk; exact ⟨x, hx⟩) (fun v _ _ => ⟨v, rfl⟩) M w1.heap.size L.length _ _ _ rfl hrg ?_ ?_)
   | fail)
  ·intro hc0 hl0
   go_wp2
   go_ret
   refine ⟨_, _, L2, rfl, hF, hO, ?_, hB⟩
   have hp := hC.perm hrg.owns key9 Tryz.underlying9 hl0
   rw [datum_keys] at hp
   refine srt_ext (hF.srt.map _) (h.srt.map _) fun p => ?_
   rw [hCp p]
   split
   ·rfl
   ·rename_i hn
    rw [nds_fnd, fnd_none_of (fun e he e2 => hn ?_)]
    ·rfl
    ·rw [← e2]
     exact hp.mem_iff.2 (by rw [blks, List.map_map]; exact List.mem_map.2 ⟨e, he, rfl⟩)
  ·intro x c kl yd yp w3 cnt3 hkey hlk hv hat hrg3 hlt hg3 hs3 hen
   obtain ⟨x', ex, rfl, _⟩ := Maps.keyOf_str Tryz.underlying9 hkey
   obtain rfl : x = x' := encStr_inj ex
   obtain ⟨b, hxb⟩ := datum_has (blks L) x (has_true_of_atKey hat)
   have hfx : ∃ e, fnd L x = some e := by
    cases hfe : fnd L x with
    | some e => exact ⟨e, rfl⟩
    | none =>
     have h1 := fnd_none hfe
     unfold blks at hxb
     obtain ⟨e, he, hee⟩ := List.mem_map.1 hxb
     simp only [Prod.mk.injEq] at hee
     exact absurd hee.1 (h1 e he)
   obtain ⟨en, hfe⟩ := hfx
   have hmem := fnd_mem hfe
   have hcp : c = .pointer (some ⟨en.blk, 0, none⟩) := by
    have h1 := hat .nil
    rw [datum_at, blks_fnd, hfe] at h1
    dsimp at h1
    rw [← h1] at hv
    exact ptrElem_lit hv
   subst hcp
   have hxl : x.length ≤ 1000 := h.keys _ hmem
   have hC3 := hC.step hlk hat
   have hb3 : Below w0.heap.size w0 w3 := hB.grown hg3 (by have := hB.size; omega) (fun k e => by cases e; omega)
   have hnode := h.nodes _ hmem
   have hnode3 : NodeAt w3 en := (hb3.block _ hnode.lt).trans hnode
   have hrd3 : Rds w3 en.dv en.nd.data := (h.rds _ hmem).below hb3
   obtain ⟨i1, i2, i3, hIT⟩ : ∃ i1 i2 i3, wr.heap[w0.heap.size + 1 + 1]? = some (.mapIter (some M) i1 i2 i3) := by
    obtain ⟨es, clock, since, seen, c0, hb, F, hs, hD, hr, rest⟩ := hrg
    exact ⟨_, _, _, by first | exact hr | (rw [hsz1] at hr; exact hr)⟩
   have hF3 : FsAt w3 w0.heap.size (w0.heap.size + 1) L2 wt clk rm := by
    refine hF.keep hg3.size (hg3.block _ hF.fb.lt fun e => ?_) (hg3.block _ hF.mp.lt fun e => ?_) (fun e he => hg3.block _ (hF.nodes e he).lt fun e2 => ?_) (fun e he hne g hg => hg3.block _ (rds_lt (hF.rds e he) hne g hg) fun e2 => ?_)
    ·have := Option.some.inj e; omega
    ·have := Option.some.inj e; omega
    ·have q := hF.nodes e he
     unfold NodeAt at q
     rw [Option.some.inj e2, hIT] at q
     cases q
    ·obtain ⟨cur, q⟩ := (hO.dat e he).elem g hg
     rw [Option.some.inj e2, hIT] at q
     cases q
   have hO3 : Own w3 (fun i => w0.heap.size ≤ i) w0.heap.size (w0.heap.size + 1) L2 := by
    refine ⟨hO.sA, hO.sM, hO.sB, hO.sD, fun e he => (hO.dat e he).kept fun g hg => hg3.block _ ((hO.dat e he).lt g hg) fun e2 => ?_, hO.apB, hO.apD⟩
    obtain ⟨cur, q⟩ := (hO.dat e he).elem g hg
    rw [Option.some.inj e2, hIT] at q
    cases q
   have hTw : TwC en.blk w0.heap.size (w0.heap.size + 1) en.nd.dir en.nd.time en.dv w3 := ⟨hnode3.c0, hnode3.c1, hnode3.c2, hF3.fb.c0⟩
   have hTwd : TwC en.blk w0.heap.size (w0.heap.size + 1) en.nd.dir en.nd.time en.dv w3.drew := ⟨hTw.c0, hTw.c1, hTw.c2, hTw.cg⟩
   go_wp2
   refine wp_region_class (C := TwC en.blk w0.heap.size (w0.heap.size + 1) en.nd.dir en.nd.time en.dv) (by kernel_rfl) ?_
   (refine wpAnyC_take (i := 0) (v := ?_) hTwd rfl (by kernel_rfl) (by kernel_rfl) (by kernel_rfl) (fun _ _ _ h => h) (Or.inl ⟨by rfl, ?_⟩) ?_; rotate_left; (intro w hc; have k0 := hc.c0; have k1 := hc.c1; have k2 := hc.c2; have kg := hc.cg; clear hc; go_simp; try with_reducible rfl))
   (refine wpAnyC_take (i := 1) (v := ?_) hTwd rfl (by kernel_rfl) (by kernel_rfl) (by kernel_rfl) (fun _ _ _ h => h) (Or.inl ⟨by rfl, ?_⟩) ?_; rotate_left; (intro w hc; have k0 := hc.c0; have k1 := hc.c1; have k2 := hc.c2; have kg := hc.cg; clear hc; go_simp; try with_reducible rfl))
   (refine wpAnyC_take (i := 2) (v := ?_) hTwd rfl (by kernel_rfl) (by kernel_rfl) (by kernel_rfl) (fun _ _ _ h => h) (Or.inl ⟨by rfl, ?_⟩) ?_; rotate_left; (intro w hc; have k0 := hc.c0; have k1 := hc.c1; have k2 := hc.c2; have kg := hc.cg; clear hc; go_simp; try with_reducible rfl))
   (refine wpAnyC_take (i := 4) (v := ?_) hTwd rfl (by kernel_rfl) (by kernel_rfl) (by kernel_rfl) (fun _ _ _ h => h) (Or.inl ⟨by rfl, ?_⟩) ?_; rotate_left; (intro w hc; have k0 := hc.c0; have k1 := hc.c1; have k2 := hc.c2; have kg := hc.cg; clear hc; go_simp; try with_reducible rfl))
   (refine wpAnyC_take (i := 5) (v := ?_) hTwd rfl (by kernel_rfl) (by kernel_rfl) (by kernel_rfl) (fun _ _ _ h => h) (Or.inl ⟨by rfl, ?_⟩) ?_; rotate_left; (intro w hc; have k0 := hc.c0; have k1 := hc.c1; have k2 := hc.c2; have kg := hc.cg; clear hc; go_simp; try with_reducible rfl))
   (refine wpAnyC_take (i := 6) (v := ?_) hTwd rfl (by kernel_rfl) (by kernel_rfl) (by kernel_rfl) (fun _ _ _ h => h) (Or.inl ⟨by rfl, ?_⟩) ?_; rotate_left; (intro w hc; have k0 := hc.c0; have k1 := hc.c1; have k2 := hc.c2; have kg := hc.cg; clear hc; go_simp; try with_reducible rfl))
   (refine wpAnyC_take (i := 7) (v := ?_) hTwd rfl (by kernel_rfl) (by kernel_rfl) (by kernel_rfl) (fun _ _ _ h => h) (Or.inl ⟨by rfl, ?_⟩) ?_; rotate_left; (intro w hc; have k0 := hc.c0; have k1 := hc.c1; have k2 := hc.c2; have kg := hc.cg; clear hc; go_simp; try with_reducible rfl))
   (refine wpAnyC_take (i := 8) (v := ?_) hTwd rfl (by kernel_rfl) (by kernel_rfl) (by kernel_rfl) (fun _ _ _ h => h) (Or.inl ⟨by rfl, ?_⟩) ?_; rotate_left; (intro w hc; have k0 := hc.c0; have k1 := hc.c1; have k2 := hc.c2; have kg := hc.cg; clear hc; go_simp; try with_reducible rfl))
   (refine wpAnyC_take (i := 9) (v := ?_) hTwd rfl (by kernel_rfl) (by kernel_rfl) (by kernel_rfl) (fun _ _ _ h => h) (Or.inl ⟨by rfl, ?_⟩) ?_; rotate_left; (intro w hc; have k0 := hc.c0; have k1 := hc.c1; have k2 := hc.c2; have kg := hc.cg; clear hc; go_simp; try with_reducible rfl))
   (refine wpAnyC_take (i := 10) (v := ?_) hTwd rfl (by kernel_rfl) (by kernel_rfl) (by kernel_rfl) (fun _ _ _ h => h) (Or.inl ⟨by rfl, ?_⟩) ?_; rotate_left; (intro w hc; have k0 := hc.c0; have k1 := hc.c1; have k2 := hc.c2; have kg := hc.cg; clear hc; go_simp; try with_reducible rfl))
   (refine wpAnyC_take (i := 11) (v := ?_) hTwd rfl (by kernel_rfl) (by kernel_rfl) (by kernel_rfl) (fun _ _ _ h => h) (Or.inl ⟨by rfl, ?_⟩) ?_; rotate_left; (intro w hc; have k0 := hc.c0; have k1 := hc.c1; have k2 := hc.c2; have kg := hc.cg; clear hc; go_simp; try with_reducible rfl))
   (refine wpAnyC_take (i := 12) (v := ?_) hTwd rfl (by kernel_rfl) (by kernel_rfl) (by kernel_rfl) (fun _ _ _ h => h) (Or.inl ⟨by rfl, ?_⟩) ?_; rotate_left; (intro w hc; have k0 := hc.c0; have k1 := hc.c1; have k2 := hc.c2; have kg := hc.cg; clear hc; go_simp; try with_reducible rfl))
   (refine wpAnyC_take (i := 13) (v := ?_) hTwd rfl (by kernel_rfl) (by kernel_rfl) (by kernel_rfl) (fun _ _ _ h => h) (Or.inl ⟨by rfl, ?_⟩) ?_; rotate_left; (intro w hc; have k0 := hc.c0; have k1 := hc.c1; have k2 := hc.c2; have kg := hc.cg; clear hc; go_simp; try with_reducible rfl))
   (refine wpAnyC_take (i := 14) (v := ?_) hTwd rfl (by kernel_rfl) (by kernel_rfl) (by kernel_rfl) (fun _ _ _ h => h) (Or.inl ⟨by rfl, ?_⟩) ?_; rotate_left; (intro w hc; have k0 := hc.c0; have k1 := hc.c1; have k2 := hc.c2; have kg := hc.cg; clear hc; go_simp; try with_reducible rfl))
   (refine wpAnyC_take (i := 15) (v := ?_) hTwd rfl (by kernel_rfl) (by kernel_rfl) (by kernel_rfl) (fun _ _ _ h => h) (Or.inl ⟨by rfl, ?_⟩) ?_; rotate_left; (intro w hc; have k0 := hc.c0; have k1 := hc.c1; have k2 := hc.c2; have kg := hc.cg; clear hc; go_simp; try with_reducible rfl))
   refine wpAnyC_one (i := 3) (by kernel_rfl) (wpOp_wanted rfl (by rfl) ?_)
   go_simp
   refine (clone_any (mk x) _ (by rw [mk_size]; omega)).mono ?_
   rintro e w4 ⟨rfl, hb4⟩
   dsimp only
   have hb4' : Below w3.heap.size w3 w4 := ⟨hb4.os, hb4.tape, hb4.output, hb4.size, hb4.block⟩
   have hTw4 := hTw.below hb4' hnode3.lt hF3.fb.lt
   have hrd4 := hrd3.below hb4'
   have hF4 := hF3.below hb4'
   have hO4 := hO3.below hb4'
   have hrg4 := hrg3.kept (below_grown (r := none) hb4') (by simp) (by simp)
   refine ⟨hTw4, ?_⟩
   refine wpAnyC_one (i := 16) (by kernel_rfl) (wpOp_wanted rfl (by rfl) ?_)
   go_simp
   refine (own_any en.dv en.nd.data _ hrd4 (hsz _ hmem)).mono ?_
   rintro e w5 ⟨v', rfl, hd5, hg5, hb5⟩
   obtain ⟨a5, cap5, hv5⟩ := hd5.len
   subst hv5
   dsimp only
   have hTw5 := hTw4.below hb5 (by have := hnode3.lt; have := hb4'.size; omega) hF4.fb.lt
   have hF5 := hF4.below hb5
   have hO5 := hO4.below hb5
   have hrg5 := hrg4.kept (below_grown (r := none) hb5) (by simp) (by simp)
   refine ⟨hTw5, ?_⟩
   refine wpAnyC_one (i := 17) (by kernel_rfl) (wpOp_wanted rfl (by rfl) ?_)
   go_simp
   refine wpAnyC_one (i := 18) (by kernel_rfl) (wpOp_wanted rfl (by rfl) ?_)
   have hb6 : Below w5.heap.size w5 (w5.alloc (.cells #[.bool en.nd.dir, .int .i64 en.nd.time, .slice a5 en.nd.data.length cap5] 99)) := (Below.refl _ _).alloc (Nat.le_refl _) _
   have hTw6 := hTw5.below hb6 (by have := hnode3.lt; have := hb4'.size; have := hb5.size; omega) hF5.fb.lt
   go_simp
   refine wpAnyC_one (i := 19) (by kernel_rfl) (wpOp_wanted rfl (by rfl) ?_)
   have hmp6 := (hF5.below hb6).mp
   obtain ⟨w7, hr7, hm7, hg7⟩ := hmp6.put (by omega) x (by unfold maxLen; omega) ⟨w5.heap.size, .slice a5 en.nd.data.length cap5, ⟨en.nd.dir, en.nd.time, en.nd.data⟩⟩
   dsimp only at hr7
   have hrg6 := hrg5.kept (below_grown (r := none) hb6) (by simp) (by simp)
   have hrg7 := hrg6.kept hg7 (fun e => by have := Option.some.inj e; omega) (fun e => by have := Option.some.inj e; omega)
   obtain ⟨hF7, hO7⟩ := tw_put hF5 hO5 hxl hd5 (fun g hg => ⟨by have := hg5 g hg; have := hb4'.size; have := hb3.size; omega, fun y hy e => by have := hg5 g hg; have := (hO4.dat y hy).lt g e; omega⟩) (by have := hb4'.size; have := hb3.size; have := hb5.size; omega) hm7 hg7
   have hB7 : Below w0.heap.size w0 w7 := ((hb3.trans (hb4'.mono hb3.size)).trans (hb5.mono (Nat.le_trans hb3.size hb4'.size))).trans ((hb6.mono (Nat.le_trans (Nat.le_trans hb3.size hb4'.size) hb5.size)).grown hg7 (by have := hb4'.size; have := hb3.size; have := hb5.size; simp; omega) (fun k e => by cases e; omega))
   have hTw7 : TwC en.blk w0.heap.size (w0.heap.size + 1) en.nd.dir en.nd.time en.dv w7 := by
    have hn7 : NodeAt w7 en := (hB7.block _ hnode.lt).trans hnode
    exact ⟨hn7.c0, hn7.c1, hn7.c2, hF7.fb.c0⟩
   have hCp7 := hCp.step (e2 := ⟨w5.heap.size, .slice a5 en.nd.data.length cap5, ⟨en.nd.dir, en.nd.time, en.nd.data⟩⟩) hfe rfl
   go_simp
   refine wpAnyC_done (by kernel_rfl) ?_ _
   go_wp2
   go_roundw
   case rel =>
    rw [hsz1]
    refine ⟨_, _, _, _, _, _, _, _, _, _, _, _, _, _, _, _, _, _, _, _, _, _, _, _, _, _, ?_, by rfl⟩
    exact ⟨_, cnt3, ss ++ [x], _, hrg7, by rw [List.length_append, List.length_singleton]; omega, hC3, hF7, hO7, hCp7, by rw [put_length, List.length_append, List.length_singleton]; have := del_length_le L2 x; omega, hB7⟩
   case measure =>
    rw [hrg.left_eq, hsz1]
    show w7.rangeLeft M (w0.heap.size + 1 + 1) < _
    rw [hrg7.left_eq]
    exact hlt
end Go.Proofs.YtabmnkddmdffkaaGreatDoor
namespace Go.Proofs.YtabmnkddmdffkaaGreatDoor
open Go.RowKit Go.Maps
theorem size_alloc' (w : World) (o : Obj) : (w.alloc o).heap.size = w.heap.size + 1 := by simp
theorem isErr_alloc (W : World) (E : Addr) (n : Nat) (p : ByteArray) : IsErr (W.alloc (.cells #[.string p, .iface 31 (.int .i64 n)] 107)) E (.iface 105 (.pointer (some ⟨W.heap.size, 0, none⟩))) (.no n) := ⟨_, rfl, p, alloc_new _ _⟩
structure Nv where
 path : Bs
 dv : Value
 nd : Nd
structure NRow (w : World) (g o : Nat) (ns : List Nv) : Prop where
 lt : g < w.heap.size
 c0 : ∀ i n, ns[i]? = some n → w.cell? ⟨g, o + i * 4, none⟩ = some (.string (mk n.path))
 c1 : ∀ i n, ns[i]? = some n → w.cell? ⟨g, o + i * 4 + 1, none⟩ = some (.bool n.nd.dir)
 c2 : ∀ i n, ns[i]? = some n → w.cell? ⟨g, o + i * 4 + 2, none⟩ = some (.int .i64 n.nd.time)
 c3 : ∀ i n, ns[i]? = some n → w.cell? ⟨g, o + i * 4 + 3, none⟩ = some n.dv
def long (n : Nv) : Bool := !n.nd.dir && decide (65536 < n.nd.data.length)
def lenR (ns : List Nv) : Er := if ns.length > 1000 ∨ ns.any long = true then .no 2 else .ok
def Nodes (w : World) (v : Value) (ns : List Nv) : Prop :=
 ((∃ a cap, v = .slice a 0 cap) ∧ ns = []) ∨ ∃ g o cap, v = .slice (some ⟨g, o, none⟩) ns.length cap ∧ ns.length ≤ cap ∧ NRow w g o ns ∧ ∀ n ∈ ns, Rds w n.dv n.nd.data
theorem NRow.below {w w' : World} {g o : Nat} {ns : List Nv} (h : NRow w g o ns) (hb : Below w.heap.size w w') : NRow w' g o ns :=
 ⟨Nat.lt_of_lt_of_le h.lt hb.size, fun i n hi => (hb.cell (p := ⟨g, _, none⟩) h.lt).trans (h.c0 i n hi), fun i n hi => (hb.cell (p := ⟨g, _, none⟩) h.lt).trans (h.c1 i n hi),
  fun i n hi => (hb.cell (p := ⟨g, _, none⟩) h.lt).trans (h.c2 i n hi), fun i n hi => (hb.cell (p := ⟨g, _, none⟩) h.lt).trans (h.c3 i n hi)⟩
theorem Nodes.below {w w' : World} {v : Value} {ns : List Nv} (h : Nodes w v ns) (hb : Below w.heap.size w w') : Nodes w' v ns := by
 rcases h with ⟨⟨a, c, rfl⟩, rfl⟩ | ⟨g, o, cap, rfl, h0, h1, h2⟩
 ·exact .inl ⟨⟨_, _, rfl⟩, rfl⟩
 ·exact .inr ⟨g, o, cap, rfl, h0, h1.below hb, fun n hn => (h2 n hn).below hb⟩
theorem Nodes.len {w : World} {v : Value} {ns : List Nv} (h : Nodes w v ns) : ∃ a cap, v = .slice a ns.length cap := by
 rcases h with ⟨⟨a, c, rfl⟩, rfl⟩ | ⟨g, o, cap, rfl, _⟩
 ·exact ⟨_, _, rfl⟩
 ·exact ⟨_, _, rfl⟩
set_option maxRecDepth 100000 in
set_option maxHeartbeats 2000000 in
theorem lengths_row (E : Addr) (g o : Nat) (cap : Nat) (ns : List Nv) (clk rm : Int) (w : World) (h : NRow w g o ns) (hr : ∀ n ∈ ns, Rds w n.dv n.nd.data) (hl : ns.length ≤ 1000) :
  Calls Tryz.prog 48 #[.agg #[.slice (some ⟨g, o, none⟩) ns.length cap, .int .i64 clk, .int .i64 rm]] w fun r w' => (∃ v, r = .returned v ∧ IsErr w' E v (lenR ns)) ∧ Below w.heap.size w w' := by
 have k1 : ¬ (1000 : Int) < ns.length := by omega
 go_enter Tryz.func48, Tryz.ntmps48
 go_wp2
 have hb0 : Below w.heap.size w (w.alloc (.cells #[.slice (some ⟨g, o, none⟩) ns.length cap, .int .i64 clk, .int .i64 rm] 24)) := (Below.refl _ _).alloc (Nat.le_refl _) _
 go_loopw [16] (fun i wr => ∃ k : Nat, k ≤ ns.length ∧ i = .int .i64 k ∧ (ns.take k).any long = false ∧ Below w.heap.size w wr) (fun i _ => ns.length - (intOf i).toNat)
 case atStart => exact ⟨0, by omega, rfl, rfl, hb0⟩
 case round =>
  obtain ⟨k, hk, rfl, hno, hB⟩ := hrel
  by_cases hkl : k < ns.length
  ·obtain ⟨n, hn⟩ : ∃ n, ns[k]? = some n := ⟨_, List.getElem?_eq_getElem hkl⟩
   have hR := h.below hB
   have d0 := hR.c0 k n hn
   have d1 := hR.c1 k n hn
   have d2 := hR.c2 k n hn
   have d3 := hR.c3 k n hn
   have hnm : n ∈ ns := List.mem_of_getElem? hn
   obtain ⟨da, dc, hdv⟩ := (hr n hnm).len
   rw [hdv] at d3
   have k2 : (k : Int) < ns.length := by omega
   have htk : (ns.take (k + 1)).any long = long n := by rw [List.take_add_one, List.any_append, hno, hn]; simp
   have hB2 : ∀ o : Obj, Below w.heap.size w (wr.alloc o) := fun o => hB.alloc hB.size o
   clear hR hB h
   cases hdir : n.nd.dir with
   | true =>
    rw [hdir] at d1
    have hlo : long n = false := by unfold long; rw [hdir]; rfl
    go_wp2
    exact ⟨⟨k + 1, by omega, by simp, by rw [htk, hlo], hB2 _⟩, by simp [intOf]; omega⟩
   | false =>
    rw [hdir] at d1
    by_cases hdl : 65536 < n.nd.data.length
    ·have hlo : long n = true := by unfold long; rw [hdir, decide_eq_true hdl]; rfl
     have k3 : (65536 : Int) < n.nd.data.length := by omega
     go_wp2
     go_ret
     refine ⟨⟨_, rfl, ?_⟩, (hB2 _).alloc (by have := (hB2 (.cells #[] 0)).size; simp at this ⊢; omega) _⟩
     unfold lenR
     rw [if_pos (.inr (List.any_eq_true.2 ⟨n, hnm, hlo⟩))]
     have q := isErr_alloc (wr.alloc (.cells #[.string (mk n.path), .bool false, .int .i64 n.nd.time, .slice da n.nd.data.length dc] 60)) E 2 (mk n.path)
     simp only [size_alloc'] at q
     exact q
    ·have hlo : long n = false := by unfold long; rw [hdir, decide_eq_false hdl]; rfl
     have k3 : ¬ (65536 : Int) < n.nd.data.length := by omega
     go_wp2
     exact ⟨⟨k + 1, by omega, by simp, by rw [htk, hlo], hB2 _⟩, by simp [intOf]; omega⟩
  ·obtain rfl : k = ns.length := by omega
   rw [List.take_length] at hno
   clear h
   go_wp2
   go_ret
   refine ⟨⟨_, rfl, ?_⟩, hB⟩
   unfold lenR
   rw [if_neg (by rintro (h | h); omega; rw [hno] at h; cases h)]
   rfl
set_option maxHeartbeats 1000000 in
theorem lengths_nil (E : Addr) (a : Option Addr) (c : Nat) (clk rm : Int) (w : World) :
  Calls Tryz.prog 48 #[.agg #[.slice a 0 c, .int .i64 clk, .int .i64 rm]] w fun r w' => (∃ v, r = .returned v ∧ IsErr w' E v (lenR [])) ∧ Below w.heap.size w w' := by
 go_enter Tryz.func48, Tryz.ntmps48
 go_wp2
 go_loopw [16] (fun i wr => i = .int .i64 0 ∧ Below w.heap.size w wr) (fun _ _ => 0)
 case atStart => exact ⟨rfl, (Below.refl _ _).alloc (Nat.le_refl _) _⟩
 case round =>
  obtain ⟨rfl, hB⟩ := hrel
  go_wp2
  go_ret
  exact ⟨⟨_, rfl, rfl⟩, hB⟩
set_option maxHeartbeats 1000000 in
theorem lengths_much (E : Addr) (a : Option Addr) (n cap : Nat) (hn : 1000 < n) (clk rm : Int) (w : World) :
  Calls Tryz.prog 48 #[.agg #[.slice a n cap, .int .i64 clk, .int .i64 rm]] w fun r w' => (∃ v, r = .returned v ∧ IsErr w' E v (.no 2)) ∧ Below w.heap.size w w' := by
 have k1 : (1000 : Int) < n := by omega
 go_enter Tryz.func48, Tryz.ntmps48
 go_wp2
 go_ret
 refine ⟨⟨_, rfl, ?_⟩, ((Below.refl _ _).alloc (Nat.le_refl _) _).alloc (by simp) _⟩
 have q := isErr_alloc (w.alloc (.cells #[.slice a n cap, .int .i64 clk, .int .i64 rm] 24)) E 2 { data := #[] }
 simp only [size_alloc'] at q
 exact q
theorem lengths_any (E : Addr) (v : Value) (ns : List Nv) (clk rm : Int) (w : World) (h : Nodes w v ns) :
  Calls Tryz.prog 48 #[.agg #[v, .int .i64 clk, .int .i64 rm]] w fun r w' => (∃ v, r = .returned v ∧ IsErr w' E v (lenR ns)) ∧ Below w.heap.size w w' := by
 by_cases hl : ns.length ≤ 1000
 ·rcases h with ⟨⟨a, c, rfl⟩, rfl⟩ | ⟨g, o, cap, rfl, h0, h1, h2⟩
  ·exact lengths_nil E a c clk rm w
  ·exact lengths_row E g o cap ns clk rm w h1 h2 hl
 ·have e : lenR ns = .no 2 := by unfold lenR; rw [if_pos (.inl (by omega))]
  rw [e]
  obtain ⟨a, cap, rfl⟩ := h.len
  exact lengths_much E a _ cap (by omega) clk rm w
end Go.Proofs.YtabmnkddmdffkaaGreatDoor
