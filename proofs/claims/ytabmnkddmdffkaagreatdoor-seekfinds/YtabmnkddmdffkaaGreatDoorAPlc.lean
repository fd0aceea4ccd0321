import Derived.Test.YtabmnkddmdffkaaGreatDoorADirG
import Derived.Test.YtabmnkddmdffkaaGreatDoorAChgG
import Derived.Test.YtabmnkddmdffkaaGreatDoorACleanG
namespace Go.Proofs.YtabmnkddmdffkaaGreatDoor.Sk
open Go.RowKit Go.Shelf Tx
attribute [local go_sem] Oper.semAt_some
theorem tl_app (a b : ByteArray) : tl (a ++ b) = tl a ++ tl b := by
 unfold tl; rw [ByteArray.data_append, Array.toList_append]
theorem joinp_any (a b : ByteArray) (ha : a.size ≤ 200000) (hb : b.size ≤ 200000) (w : World) :
  Calls Tryz.prog 57 #[.string a, .string b] w fun e w' => e = .returned (.string (mk (clean (tl a ++ 47 :: tl b)))) ∧ Below w.heap.size w w' := by
 have hsz : (a ++ ⟨#[47]⟩ ++ b).size ≤ 500000 := by
  rw [ByteArray.size_append, ByteArray.size_append]; show a.size + 1 + b.size ≤ 500000; omega
 have hc := clean_any (a ++ ⟨#[47]⟩ ++ b) hsz
 have e1 : tl (a ++ ⟨#[47]⟩ ++ b) = tl a ++ 47 :: tl b := by rw [tl_app, tl_app, List.append_assoc]; rfl
 simp only [e1] at hc
 clear e1
 go_enter Tryz.func57, Tryz.ntmps57
 go_wp2_with fail
 refine (hc _).mono ?_
 rintro e w1 ⟨rfl, hB⟩
 go_wp2
 go_ret
 exact ⟨rfl, hB⟩
theorem dirsf_any (a : Option Addr) (n cap : Nat) (dirs name : ByteArray) (w : World) :
  Calls Tryz.prog 56 #[.agg (bsC a n cap), .string dirs, .string name] w fun e w' => e = .returned (.func (.func 85) #[] #[.pointer (some ⟨w.heap.size, 0, none⟩), .pointer (some ⟨w.heap.size + 1 + 1, 0, none⟩), .pointer (some ⟨w.heap.size + 1, 0, none⟩)]) ∧
   w' = ((w.alloc (.cells (bsC a n cap) 43)).alloc (.cells #[.string dirs] 9)).alloc (.cells #[.string name] 9) := by
 go_enter Tryz.func56, Tryz.ntmps56
 go_wp2
 go_ret
 exact ⟨rfl, rfl⟩
theorem places_any (a : Option Addr) (n cap : Nat) (dirs name : ByteArray) (w : World) :
  Calls Tryz.prog 28 #[.agg (bsC a n cap), .string dirs, .string name] w fun e w' => e = .returned (.func (.func 55) #[] #[.pointer (some ⟨w.heap.size + 1 + 1, 0, none⟩), .pointer (some ⟨w.heap.size, 0, none⟩), .pointer (some ⟨w.heap.size + 1, 0, none⟩)]) ∧
   w' = ((w.alloc (.cells (bsC a n cap) 43)).alloc (.cells #[.string dirs] 9)).alloc (.cells #[.string name] 9) := by
 go_enter Tryz.func28, Tryz.ntmps28
 go_wp2
 go_ret
 exact ⟨rfl, rfl⟩
abbrev box3 (w : World) (a : Option Addr) (n cap : Nat) (dirs name : ByteArray) : World := ((w.alloc (.cells (bsC a n cap) 43)).alloc (.cells #[.string dirs] 9)).alloc (.cells #[.string name] 9)
theorem box3_below (w : World) (a : Option Addr) (n cap : Nat) (dirs name : ByteArray) : Below w.heap.size w (box3 w a n cap dirs name) :=
 (((Below.refl _ w).alloc (Nat.le_refl _) _).alloc (by simp) _).alloc (by simp; omega) _
theorem box3_drc (w : World) (a : Option Addr) (n cap : Nat) (L : List Prw) (dirs name : ByteArray) (hp : Prs w a n L) (hm : Mx w) : DrC (box3 w a n cap dirs name) w.heap.size (w.heap.size + 1 + 1) (w.heap.size + 1) a n cap L name dirs := by
 have hl := Lies.below (box3_below w a n cap dirs name)
 refine ⟨?_, ?_, ?_, hp.lies hl, hm.lies hl⟩
 ·have h1 := World.alloc_heap_new w (.cells (bsC a n cap) 43)
  exact (Below.heap_alloc _ _ _ (by simp; omega)).trans ((Below.heap_alloc _ _ _ (by simp)).trans h1)
 ·have h1 := World.alloc_heap_new ((w.alloc (.cells (bsC a n cap) 43)).alloc (.cells #[.string dirs] 9)) (.cells #[.string name] 9)
  rw [World.size_alloc, World.size_alloc] at h1
  exact h1
 ·have h1 := World.alloc_heap_new (w.alloc (.cells (bsC a n cap) 43)) (.cells #[.string dirs] 9)
  rw [World.size_alloc] at h1
  exact (Below.heap_alloc _ _ _ (by simp)).trans h1
theorem round_in {n l : Nat} {P : Program} {f : FuncId} {tmps : Array Value} {assign body : Code} {w : World} {R : Ending → World → Prop} (l2 : Nat) (h : RoundIn Fence.wide n P l f tmps assign body w R) : RoundIn (Fence.wide.inRound l2) n P l f tmps assign body w R := h
def jnP (nm d : List UInt8) : List UInt8 := clean (d ++ 47 :: nm)
def plL (L : List Prw) (nm dr : List UInt8) : List (List UInt8) := nm :: if isM nm then [] else (dirL L nm dr).map (jnP nm)
def jnW (nm : List UInt8) (d : Wd) : Wd := if h : (mk (jnP nm (bytesOf d))).size ≤ 1000000 then ⟨mk (jnP nm (bytesOf d)), h⟩ else ⟨⟨#[]⟩, by decide⟩
theorem jnW_val (nm : List UInt8) (d : Wd) (hn : nm.length ≤ 200000) (hd : d.1.size ≤ 200000) : (jnW nm d).1 = mk (jnP nm (bytesOf d)) := by
 have h : (mk (jnP nm (bytesOf d))).size ≤ 1000000 := by
  rw [mk_size]
  unfold jnP
  have h1 := clean_len (bytesOf d ++ 47 :: nm)
  have h2 : (bytesOf d).length = d.1.size := by unfold bytesOf; simp
  rw [List.length_append, List.length_cons, h2] at h1
  omega
 unfold jnW
 rw [dif_pos h]
theorem jnW_bytes (nm : List UInt8) (d : Wd) (hn : nm.length ≤ 200000) (hd : d.1.size ≤ 200000) : bytesOf (jnW nm d) = jnP nm (bytesOf d) := by
 unfold bytesOf
 rw [jnW_val nm d hn hd]
 rfl
theorem dirL_short (L : List Prw) (nm dr : List UInt8) (N : Nat) (hd : dr.length ≤ N) (hl : ∀ p ∈ L, p.2.size ≤ N) : ∀ y ∈ dirL L nm dr, y.length ≤ N := by
 intro y hy
 unfold dirL at hy
 rcases List.mem_append.1 hy with h | h
 ·obtain ⟨p, hp, hyp⟩ := List.mem_flatMap.1 h
  unfold pW at hyp
  split at hyp
  ·have h1 := words_short (tl p.2) y hyp
   have h2 := hl p hp
   rw [tl_len] at h1; omega
  ·cases hyp
 ·have h1 := words_short (cmap dr) y h
  rw [cmap_len] at h1; omega
theorem kp_up {n M : Nat} {W A B : World} (h : Kp n W A) (hM : W.heap.size ≤ M) (hb : Below M A B) : Kp n W B :=
 ⟨Nat.le_trans h.size hb.size, fun k hk hl => (hb.block k (by omega)).trans (h.up k hk hl), fun k o hk ho => (hb.block k (by have := (Array.getElem?_eq_some_iff.1 hk).1; omega)).trans (h.low k o hk ho)⟩
theorem map_jn (nm : List UInt8) (l : List Wd) (hn : nm.length ≤ 200000) (hl : ∀ y ∈ l.map bytesOf, y.length ≤ 200000) : (l.map (jnW nm)).map bytesOf = (l.map bytesOf).map (jnP nm) := by
 rw [List.map_map, List.map_map]
 refine List.map_congr_left fun d hd => ?_
 have h1 := hl (bytesOf d) (List.mem_map_of_mem hd)
 have h2 : (bytesOf d).length = d.1.size := by unfold bytesOf; simp
 exact jnW_bytes nm d hn (by omega)
set_option maxRecDepth 100000 in
set_option maxHeartbeats 2000000 in
theorem places1_in (n l : Nat) (hn : 4 ≤ n) (Bb Bn Bd : Nat) (a : Option Addr) (m cap : Nat) (L : List Prw) (name dirs : ByteArray) (hm : m ≤ 1000000) (hns : name.size ≤ 100000) (hds : dirs.size ≤ 100000) (hls : ∀ p ∈ L, p.1.size ≤ 100000 ∧ p.2.size ≤ 100000)
  (J Jx : List Wd → World → Prop) (W : World) (hC : DrC W Bb Bn Bd a m cap L name dirs) (hJb : ∀ pre A B, J pre A → Below W.heap.size A B → J pre B) (hJx : ∀ pre A B, Jx pre A → Below W.heap.size A B → Jx pre B)
  (hY : YieldsP (n - 1) l W.heap.size (plL L (tl name) (tl dirs)) J Jx) (h0 : J [] W) :
  CallsIn Fence.wide n Tryz.prog 55 #[.func (.yield l) #[] #[], .pointer (some ⟨Bn, 0, none⟩), .pointer (some ⟨Bb, 0, none⟩), .pointer (some ⟨Bd, 0, none⟩)] W fun e W' => (∃ v, e = .returned v) ∧
   ((∃ ys : List Wd, ys.map bytesOf = plL L (tl name) (tl dirs) ∧ J ys W') ∨ (∃ pre : List Wd, True ∧ Jx pre W')) := by
 have hn1 : 1 ≤ n := by omega
 have hns1 : name.size ≤ 1000000 := by omega
 obtain ⟨x0, hx0⟩ : ∃ x0 : Wd, x0 = ⟨name, hns1⟩ := ⟨_, rfl⟩
 have hx1 : x0.1 = name := by rw [hx0]
 have hx2 : bytesOf x0 = tl name := by rw [hx0]; rfl
 obtain ⟨W0, hW0⟩ : ∃ W0, W0 = W.alloc (Obj.cells #[Value.func (Fn.yield l) #[] #[]] 67) := ⟨_, rfl⟩
 have hs0 : W0.heap.size = W.heap.size + 1 := by rw [hW0]; simp
 have hb0 : Below W.heap.size W W0 := by rw [hW0]; exact (Below.refl _ _).alloc (Nat.le_refl _) _
 have bY : Boxed W0 W.heap.size 67 (.func (.yield l) #[] #[]) := by rw [hW0]; exact Boxed.new W 67 _
 have hC0 := hC.lies (Lies.below hb0)
 have hy0 := hY [] x0 W0 (by rw [List.nil_append, List.map_singleton, hx2]; exact ⟨_, rfl⟩) hb0.size (hJb _ _ _ h0 hb0)
 rw [hx1] at hy0
 obtain ⟨fn, tmps, assign, body, hy, hR⟩ := hy0
 have HY := hide' hY
 have HJ := hide' hJb
 have HJX := hide' hJx
 have HLS := hide' hls
 have cy := bY.cell
 have cn := hC0.nm.cell
 have HC0 := hide' hC0
 have HBY := hide' bY
 have HX2 := hide' hx2
 clear hY hJb hJx hC hls hx2 hx1 hx0 bY hC0 h0
 refine callsIn_of_wp_marks Tryz.func55 rfl trivial ?_ rfl
 simp only [Tryz.ntmps55, List.size_toArray, List.length_cons, List.length_nil, Nat.reduceAdd, Nat.reduceSub, Array.replicate_succ, Array.replicate_zero, List.push_toArray, List.append_toArray, List.nil_append, List.cons_append]
 rw [hW0] at hy cy cn
 gi_wp2
 rw [← hW0]
 refine hR.mono ?_
 rintro e W1 (⟨rfl, hJ1, hk1⟩ | ⟨rfl, hJx1, hk1⟩)
 rotate_left
 ·clear hy hR cy cn
  gi_wp2
  refine ⟨_, results_none rfl _ _ _, ?_⟩
  exact ⟨⟨_, rfl⟩, .inr ⟨_, trivial, hJx1⟩⟩
 have hC1 := HC0.out.lies hk1.lies
 have bY1 : Boxed W1 W.heap.size 67 (.func (.yield l) #[] #[]) := (hk1.up _ (Nat.le_refl _) (by omega)).trans HBY.out
 have cn1 := hC1.nm.cell
 have q1 := parted_any name hns1 W1
 obtain ⟨mm, hmm⟩ : ∃ mm, mm = isM (tl name) := ⟨_, rfl⟩
 obtain ⟨xa, hxa⟩ : ∃ xa, xa = mk (pA (tl name)) := ⟨_, rfl⟩
 obtain ⟨xm, hxm⟩ : ∃ xm, xm = mk (pM (tl name)) := ⟨_, rfl⟩
 have hpv : prV (tl name) = .tuple #[.string xa, .string xm, .bool mm] := by rw [hmm, hxa, hxm]
 rw [hpv] at q1
 have HMM := hide' hmm
 have HC1 := hide' hC1
 have hs1 := hk1.size
 clear hpv hxa hxm hmm hC1 cy cn hy hR
 gi_wp2_with (refine ⟨trivial, ?_⟩; gi_at_call 38; refine (callsIn_wide.2 q1).mono ?_)
 rintro e W2 ⟨rfl, hb2⟩
 cases mm with
 | true =>
  have hJ2 := HJ.out _ _ _ hJ1 (hb2.mono (by omega))
  have hpl : ([] ++ [x0]).map bytesOf = plL L (tl name) (tl dirs) := by unfold plL; rw [← HMM.out, List.nil_append, List.map_singleton, HX2.out]; rfl
  have HPL := hide' hpl
  clear hpl
  gi_wp2
  refine ⟨_, results_none rfl _ _ _, ?_⟩
  exact ⟨⟨_, rfl⟩, .inl ⟨_, HPL.out, hJ2⟩⟩
 | false =>
  have hC2 := HC1.out.lies (Lies.below hb2)
  have cb : W2.cell? ⟨Bb, 0, none⟩ = some (.slice none 0 0) := by rw [Lib.cell_of_heap hC2.base]; rfl
  have cb1 : W2.cell? ⟨Bb, 1, none⟩ = some (.slice none 0 0) := by rw [Lib.cell_of_heap hC2.base]; rfl
  have cb2 : W2.cell? ⟨Bb, 2, none⟩ = some (.slice a m cap) := by rw [Lib.cell_of_heap hC2.base]; rfl
  have cb3 : W2.cell? ⟨Bb, 3, none⟩ = some (.slice none 0 0) := by rw [Lib.cell_of_heap hC2.base]; rfl
  have cb4 : W2.cell? ⟨Bb, 4, none⟩ = some (.slice none 0 0) := by rw [Lib.cell_of_heap hC2.base]; rfl
  have cb5 : W2.cell? ⟨Bb, 5, none⟩ = some (.string ⟨#[]⟩) := by rw [Lib.cell_of_heap hC2.base]; rfl
  have cb6 : W2.cell? ⟨Bb, 6, none⟩ = some (.slice none 0 0) := by rw [Lib.cell_of_heap hC2.base]; rfl
  have cd := hC2.dr.cell
  have cn2 := hC2.nm.cell
  have q2 := dirsf_any a m cap dirs name W2
  have HC2 := hide' hC2
  clear hC2 q1 cn1
  gi_wp2_with (refine ⟨trivial, ?_⟩; gi_at_call 56; refine (callsIn_wide.2 q2).mono ?_; rintro e w' ⟨rfl, rfl⟩)
  have hb3 := box3_below W2 a m cap dirs name
  have hD3 := box3_drc W2 a m cap L dirs name HC2.out.prs HC2.out.mx
  obtain ⟨W3, hW3⟩ : ∃ W3, W3 = box3 W2 a m cap dirs name := ⟨_, rfl⟩
  have hW3' : ((W2.alloc (Obj.cells (bsC a m cap) 43)).alloc (Obj.cells #[Value.string dirs] 9)).alloc (Obj.cells #[Value.string name] 9) = W3 := hW3.symm
  rw [hW3']
  rw [← hW3] at hb3 hD3
  have hs2 := hb2.size
  have hs3 := hb3.size
  have hNW : W.heap.size ≤ W3.heap.size := by omega
  have hls2 : ∀ p ∈ L, p.1.size ≤ 1000000 ∧ p.2.size ≤ 1000000 := fun p hp => by have := HLS.out p hp; omega
  have hseq := dirs_seq (n - 1) (by omega) W2.heap.size (W2.heap.size + 1 + 1) (W2.heap.size + 1) a m cap L name dirs hm hns1 (by omega) hls2 W3 hD3
  have hb13 : Below W1.heap.size W1 W3 := hb2.trans (hb3.mono hs2)
  have hJ3 : J ([x0] ++ ([] : List Wd).map (jnW (tl name))) W3 := HJ.out _ _ _ hJ1 (hb13.mono (by omega))
  have hK3 : Kp W.heap.size W0 W3 := hk1.trans (Kp.below hb13)
  have hshort : ∀ y ∈ dirL L (tl name) (tl dirs), y.length ≤ 100000 := dirL_short L _ _ 100000 (by rw [tl_len]; exact hds) (fun p hp => (HLS.out p hp).2)
  have HSH := hide' hshort
  have hpl : plL L (tl name) (tl dirs) = [tl name] ++ (dirL L (tl name) (tl dirs)).map (jnP (tl name)) := by unfold plL; rw [← HMM.out]; rfl
  have HPL := hide' hpl
  have hnl : (tl name).length ≤ 200000 := by rw [tl_len]; omega
  have HNL := hide' hnl
  clear hW3 hW3' hb3 hD3 hb2 hb13 q2 hls2 hshort hpl hnl cb cb1 cb2 cb3 cb4 cb5 cb6 cd cn2 hJ1 hk1 bY1 HC1 HC2 HLS HMM
  refine range_l (by omega) (gf := 85) (lb := #[.pointer (some ⟨W2.heap.size, 0, none⟩), .pointer (some ⟨W2.heap.size + 1 + 1, 0, none⟩), .pointer (some ⟨W2.heap.size + 1, 0, none⟩)]) rfl (enters_of Tryz.func85 (by kernel_rfl) rfl)
   hseq (fun _ => rfl)
   (fun pre Z => J ([x0] ++ pre.map (jnW (tl name))) Z ∧ Kp W.heap.size W0 Z) (fun c _ Z => c = .ret ∧ ∃ pre, Jx pre Z)
   (fun pre A B h hb => ⟨HJ.out _ _ _ h.1 (hb.mono hNW), kp_up h.2 (by omega) hb⟩) (fun c _ A B h hb => ⟨h.1, by obtain ⟨pre, hp⟩ := h.2; exact ⟨pre, HJX.out _ _ _ hp (hb.mono hNW)⟩⟩) ⟨hJ3, hK3⟩
   (fun x => { tmps := #[.func (.yield l) #[] #[], .pointer (some ⟨Bn, 0, none⟩), .pointer (some ⟨Bb, 0, none⟩), .pointer (some ⟨Bd, 0, none⟩), .pointer (some ⟨W.heap.size, 0, none⟩), .string xa, .string xm, .bool false, .string x.1, .func (.yield l) #[] #[], .string name, .bool true, .bool false, .tuple #[.string xa, .string xm, .bool false], .string name, .tuple #[.string xa, .string xm, .bool false], .string xa, .string xm, .bool false, .bool false, .agg (bsC a m cap), .string dirs, .string name, .func (.func 85) #[] #[.pointer (some ⟨W2.heap.size, 0, none⟩), .pointer (some ⟨W2.heap.size + 1 + 1, 0, none⟩), .pointer (some ⟨W2.heap.size + 1, 0, none⟩)], .string x.1, undef, undef, undef, undef, undef, undef], defers := [] }) ?assign ?body ?done ?stop
  case assign =>
   intro l2 x Z K hK
   gi_wp2
   exact hK
  case body =>
   rintro l2 pre x Z hpf hsz ⟨hJz, hKz⟩
   have hmx : Tryz.prog.follows .mixedOrders = true := by kernel_rfl
   have hNZ : W.heap.size < Z.heap.size := by omega
   have cyz : Z.cell? ⟨W.heap.size, 0, none⟩ = some (.func (.yield l) #[] #[]) := by
    have h1 : Boxed Z W.heap.size 67 (.func (.yield l) #[] #[]) := (hKz.up _ (Nat.le_refl _) (by omega)).trans HBY.out
    exact h1.cell
   have cnz := (HC0.out.lies hKz.lies).nm.cell
   have hpm : ∀ y ∈ (pre ++ [x]).map bytesOf, y.length ≤ 100000 := fun y hy => HSH.out y (hpf.subset hy)
   have hxl : x.1.size ≤ 100000 := by
    have h1 := hpm (bytesOf x) (by simp)
    have h2 : (bytesOf x).length = x.1.size := by unfold bytesOf; simp
    omega
   obtain ⟨y, hy⟩ : ∃ y, y = jnW (tl name) x := ⟨_, rfl⟩
   have kj := joinp_any x.1 name (by omega) (by omega)
   have hyv : mk (clean (tl x.1 ++ 47 :: tl name)) = y.1 := by rw [hy, jnW_val _ _ HNL.out (by omega)]; rfl
   rw [hyv] at kj
   have hlist : [x0] ++ (pre ++ [x]).map (jnW (tl name)) = ([x0] ++ pre.map (jnW (tl name))) ++ [y] := by rw [List.map_append, List.map_singleton, hy, List.append_assoc]
   have hnext : (([x0] ++ pre.map (jnW (tl name))) ++ [y]).map bytesOf <+: plL L (tl name) (tl dirs) := by
    rw [← hlist, HPL.out, List.map_append, List.map_singleton, HX2.out, map_jn _ _ HNL.out (fun z hz => Nat.le_trans (hpm z hz) (by decide))]
    exact (List.prefix_append_right_inj _).2 (hpf.map _)
   have HNX : Hid (∀ w1, Below Z.heap.size Z w1 → YieldAt Fence.wide (n - 1 - 1 - 1) Tryz.prog l #[.string y.1] w1 fun e W' => (e = .returned (.bool true) ∧ J (([x0] ++ pre.map (jnW (tl name))) ++ [y]) W' ∧ Kp W.heap.size w1 W') ∨ (e = .returned (.bool false) ∧ Jx (([x0] ++ pre.map (jnW (tl name))) ++ [y]) W' ∧ Kx W.heap.size w1 W')) :=
    fun w1 hb => HY.out.any _ _ _ hnext (by have := hb.size; omega) (HJ.out _ _ _ hJz (hb.mono (by omega)))
   have HT : Hid (∀ w1 W4, Below Z.heap.size Z w1 → J (([x0] ++ pre.map (jnW (tl name))) ++ [y]) W4 → Kp W.heap.size w1 W4 → Kp W3.heap.size Z W4 ∧ J ([x0] ++ (pre ++ [x]).map (jnW (tl name))) W4 ∧ Kp W.heap.size W0 W4) := fun w1 W4 hb hj hk =>
    ⟨(Kp.below hb).trans (hk.mono hNW), by rw [hlist]; exact hj, (hKz.trans (Kp.below hb)).trans hk⟩
   have HX : Hid (∀ w1 W4, Below Z.heap.size Z w1 → Jx (([x0] ++ pre.map (jnW (tl name))) ++ [y]) W4 → Kx W.heap.size w1 W4 → Kx W3.heap.size Z W4 ∧ ∃ pre, Jx pre W4) := fun w1 W4 hb hj hk =>
    ⟨(Kp.below hb).x.trans (hk.mono hNW), _, hj⟩
   clear hpf hpm hy hyv hlist hnext hseq hJ3 hK3 hJz hKz
   gi_wp2
   refine wpIn_region_any hmx ?_
   change wpAnyIn _ _ _ _ _ _ _ _ _ (World.drew _)
   refine wpAnyIn_ready (rs := [0, 1, 2]) (by kernel_rfl) (by simp) ?_
   refine AllReadyIn.cons rfl (fun K hK => ?_) (AllReadyIn.cons rfl (fun K hK => ?_) (AllReadyIn.cons rfl (fun K hK => ?_) AllReadyIn.nil))
   ·go_simp
    refine hK _ _ ?_
    clear hK K
    refine wpAnyIn_ready (rs := [1, 2]) (by kernel_rfl) (by simp) ?_
    refine AllReadyIn.cons rfl (fun K hK => ?_) (AllReadyIn.cons rfl (fun K hK => ?_) AllReadyIn.nil)
    ·go_simp
     refine hK _ _ ?_
     clear hK K
     refine wpAnyIn_ready (rs := [2]) (by kernel_rfl) (by simp) ?_
     refine AllReadyIn.cons rfl (fun K hK => ?_) AllReadyIn.nil
     go_simp
     refine hK _ _ ?_
     clear hK K
     refine wpAnyIn_ready (rs := [3]) (by kernel_rfl) (by simp) ?_
     refine AllReadyIn.cons rfl (fun K hK => ?_) AllReadyIn.nil
     go_simp
     refine ⟨trivial, fun _ => by omega, ?_⟩
     refine (CallsIn.inRound l2 (callsIn_wide.2 (kj _))).mono ?_
     rintro e w1 ⟨rfl, hb⟩
     have hb1 : Below Z.heap.size Z w1 := (Below.refl _ Z).drew.trans hb
     clear hb
     have cy1 := (hb1.cell (p := ⟨W.heap.size, 0, none⟩) hNZ).trans cyz
     refine hK _ _ ?_
     clear hK K
     obtain ⟨fn', tmps', assign', body', hy', hR'⟩ := HNX.out w1 hb1
     refine wpAnyIn_ready (rs := [4]) (by kernel_rfl) (by simp) ?_
     refine AllReadyIn.cons rfl (fun K hK => ?_) AllReadyIn.nil
     go_simp
     refine ⟨fun _ => by omega, (round_in l2 hR').mono ?_⟩
     rintro e W4 (⟨rfl, hJ4, hk4⟩ | ⟨rfl, hJ4, hk4⟩)
     ·refine hK _ _ ?_
      clear hK K hy' hR'
      refine wpAnyIn_ready (rs := [5]) (by kernel_rfl) (by simp) ?_
      refine AllReadyIn.cons rfl (fun K hK => ?_) AllReadyIn.nil
      go_simp
      refine hK _ _ ?_
      clear hK K
      refine wpAnyIn_done (by kernel_rfl) ?_ _
      have hF := HT.out w1 W4 hb1 hJ4 hk4
      gi_wp2
      exact hF
     ·refine hK _ _ ?_
      clear hK K hy' hR'
      refine wpAnyIn_ready (rs := [5]) (by kernel_rfl) (by simp) ?_
      refine AllReadyIn.cons rfl (fun K hK => ?_) AllReadyIn.nil
      go_simp
      refine hK _ _ ?_
      clear hK K
      refine wpAnyIn_done (by kernel_rfl) ?_ _
      have hF := HX.out w1 W4 hb1 hJ4 hk4
      gi_wp2
      exact ⟨hF.1, rfl, hF.2⟩
    ·go_simp
     refine hK _ _ ?_
     clear hK K
     refine wpAnyIn_ready (rs := [1]) (by kernel_rfl) (by simp) ?_
     refine AllReadyIn.cons rfl (fun K hK => ?_) AllReadyIn.nil
     go_simp
     refine hK _ _ ?_
     clear hK K
     refine wpAnyIn_ready (rs := [3]) (by kernel_rfl) (by simp) ?_
     refine AllReadyIn.cons rfl (fun K hK => ?_) AllReadyIn.nil
     go_simp
     refine ⟨trivial, fun _ => by omega, ?_⟩
     refine (CallsIn.inRound l2 (callsIn_wide.2 (kj _))).mono ?_
     rintro e w1 ⟨rfl, hb⟩
     have hb1 : Below Z.heap.size Z w1 := (Below.refl _ Z).drew.trans hb
     clear hb
     have cy1 := (hb1.cell (p := ⟨W.heap.size, 0, none⟩) hNZ).trans cyz
     refine hK _ _ ?_
     clear hK K
     obtain ⟨fn', tmps', assign', body', hy', hR'⟩ := HNX.out w1 hb1
     refine wpAnyIn_ready (rs := [4]) (by kernel_rfl) (by simp) ?_
     refine AllReadyIn.cons rfl (fun K hK => ?_) AllReadyIn.nil
     go_simp
     refine ⟨fun _ => by omega, (round_in l2 hR').mono ?_⟩
     rintro e W4 (⟨rfl, hJ4, hk4⟩ | ⟨rfl, hJ4, hk4⟩)
     ·refine hK _ _ ?_
      clear hK K hy' hR'
      refine wpAnyIn_ready (rs := [5]) (by kernel_rfl) (by simp) ?_
      refine AllReadyIn.cons rfl (fun K hK => ?_) AllReadyIn.nil
      go_simp
      refine hK _ _ ?_
      clear hK K
      refine wpAnyIn_done (by kernel_rfl) ?_ _
      have hF := HT.out w1 W4 hb1 hJ4 hk4
      gi_wp2
      exact hF
     ·refine hK _ _ ?_
      clear hK K hy' hR'
      refine wpAnyIn_ready (rs := [5]) (by kernel_rfl) (by simp) ?_
      refine AllReadyIn.cons rfl (fun K hK => ?_) AllReadyIn.nil
      go_simp
      refine hK _ _ ?_
      clear hK K
      refine wpAnyIn_done (by kernel_rfl) ?_ _
      have hF := HX.out w1 W4 hb1 hJ4 hk4
      gi_wp2
      exact ⟨hF.1, rfl, hF.2⟩
   ·go_simp
    refine hK _ _ ?_
    clear hK K
    refine wpAnyIn_ready (rs := [0, 2]) (by kernel_rfl) (by simp) ?_
    refine AllReadyIn.cons rfl (fun K hK => ?_) (AllReadyIn.cons rfl (fun K hK => ?_) AllReadyIn.nil)
    ·go_simp
     refine hK _ _ ?_
     clear hK K
     refine wpAnyIn_ready (rs := [2]) (by kernel_rfl) (by simp) ?_
     refine AllReadyIn.cons rfl (fun K hK => ?_) AllReadyIn.nil
     go_simp
     refine hK _ _ ?_
     clear hK K
     refine wpAnyIn_ready (rs := [3]) (by kernel_rfl) (by simp) ?_
     refine AllReadyIn.cons rfl (fun K hK => ?_) AllReadyIn.nil
     go_simp
     refine ⟨trivial, fun _ => by omega, ?_⟩
     refine (CallsIn.inRound l2 (callsIn_wide.2 (kj _))).mono ?_
     rintro e w1 ⟨rfl, hb⟩
     have hb1 : Below Z.heap.size Z w1 := (Below.refl _ Z).drew.trans hb
     clear hb
     have cy1 := (hb1.cell (p := ⟨W.heap.size, 0, none⟩) hNZ).trans cyz
     refine hK _ _ ?_
     clear hK K
     obtain ⟨fn', tmps', assign', body', hy', hR'⟩ := HNX.out w1 hb1
     refine wpAnyIn_ready (rs := [4]) (by kernel_rfl) (by simp) ?_
     refine AllReadyIn.cons rfl (fun K hK => ?_) AllReadyIn.nil
     go_simp
     refine ⟨fun _ => by omega, (round_in l2 hR').mono ?_⟩
     rintro e W4 (⟨rfl, hJ4, hk4⟩ | ⟨rfl, hJ4, hk4⟩)
     ·refine hK _ _ ?_
      clear hK K hy' hR'
      refine wpAnyIn_ready (rs := [5]) (by kernel_rfl) (by simp) ?_
      refine AllReadyIn.cons rfl (fun K hK => ?_) AllReadyIn.nil
      go_simp
      refine hK _ _ ?_
      clear hK K
      refine wpAnyIn_done (by kernel_rfl) ?_ _
      have hF := HT.out w1 W4 hb1 hJ4 hk4
      gi_wp2
      exact hF
     ·refine hK _ _ ?_
      clear hK K hy' hR'
      refine wpAnyIn_ready (rs := [5]) (by kernel_rfl) (by simp) ?_
      refine AllReadyIn.cons rfl (fun K hK => ?_) AllReadyIn.nil
      go_simp
      refine hK _ _ ?_
      clear hK K
      refine wpAnyIn_done (by kernel_rfl) ?_ _
      have hF := HX.out w1 W4 hb1 hJ4 hk4
      gi_wp2
      exact ⟨hF.1, rfl, hF.2⟩
    ·go_simp
     refine hK _ _ ?_
     clear hK K
     refine wpAnyIn_ready (rs := [0, 3]) (by kernel_rfl) (by simp) ?_
     refine AllReadyIn.cons rfl (fun K hK => ?_) (AllReadyIn.cons rfl (fun K hK => ?_) AllReadyIn.nil)
     ·go_simp
      refine hK _ _ ?_
      clear hK K
      refine wpAnyIn_ready (rs := [3]) (by kernel_rfl) (by simp) ?_
      refine AllReadyIn.cons rfl (fun K hK => ?_) AllReadyIn.nil
      go_simp
      refine ⟨trivial, fun _ => by omega, ?_⟩
      refine (CallsIn.inRound l2 (callsIn_wide.2 (kj _))).mono ?_
      rintro e w1 ⟨rfl, hb⟩
      have hb1 : Below Z.heap.size Z w1 := (Below.refl _ Z).drew.trans hb
      clear hb
      have cy1 := (hb1.cell (p := ⟨W.heap.size, 0, none⟩) hNZ).trans cyz
      refine hK _ _ ?_
      clear hK K
      obtain ⟨fn', tmps', assign', body', hy', hR'⟩ := HNX.out w1 hb1
      refine wpAnyIn_ready (rs := [4]) (by kernel_rfl) (by simp) ?_
      refine AllReadyIn.cons rfl (fun K hK => ?_) AllReadyIn.nil
      go_simp
      refine ⟨fun _ => by omega, (round_in l2 hR').mono ?_⟩
      rintro e W4 (⟨rfl, hJ4, hk4⟩ | ⟨rfl, hJ4, hk4⟩)
      ·refine hK _ _ ?_
       clear hK K hy' hR'
       refine wpAnyIn_ready (rs := [5]) (by kernel_rfl) (by simp) ?_
       refine AllReadyIn.cons rfl (fun K hK => ?_) AllReadyIn.nil
       go_simp
       refine hK _ _ ?_
       clear hK K
       refine wpAnyIn_done (by kernel_rfl) ?_ _
       have hF := HT.out w1 W4 hb1 hJ4 hk4
       gi_wp2
       exact hF
      ·refine hK _ _ ?_
       clear hK K hy' hR'
       refine wpAnyIn_ready (rs := [5]) (by kernel_rfl) (by simp) ?_
       refine AllReadyIn.cons rfl (fun K hK => ?_) AllReadyIn.nil
       go_simp
       refine hK _ _ ?_
       clear hK K
       refine wpAnyIn_done (by kernel_rfl) ?_ _
       have hF := HX.out w1 W4 hb1 hJ4 hk4
       gi_wp2
       exact ⟨hF.1, rfl, hF.2⟩
     ·go_simp
      refine ⟨trivial, fun _ => by omega, ?_⟩
      refine (CallsIn.inRound l2 (callsIn_wide.2 (kj _))).mono ?_
      rintro e w1 ⟨rfl, hb⟩
      have hb1 : Below Z.heap.size Z w1 := (Below.refl _ Z).drew.trans hb
      clear hb
      have cy1 := (hb1.cell (p := ⟨W.heap.size, 0, none⟩) hNZ).trans cyz
      refine hK _ _ ?_
      clear hK K
      refine wpAnyIn_ready (rs := [0]) (by kernel_rfl) (by simp) ?_
      refine AllReadyIn.cons rfl (fun K hK => ?_) AllReadyIn.nil
      go_simp
      refine hK _ _ ?_
      clear hK K
      obtain ⟨fn', tmps', assign', body', hy', hR'⟩ := HNX.out w1 hb1
      refine wpAnyIn_ready (rs := [4]) (by kernel_rfl) (by simp) ?_
      refine AllReadyIn.cons rfl (fun K hK => ?_) AllReadyIn.nil
      go_simp
      refine ⟨fun _ => by omega, (round_in l2 hR').mono ?_⟩
      rintro e W4 (⟨rfl, hJ4, hk4⟩ | ⟨rfl, hJ4, hk4⟩)
      ·refine hK _ _ ?_
       clear hK K hy' hR'
       refine wpAnyIn_ready (rs := [5]) (by kernel_rfl) (by simp) ?_
       refine AllReadyIn.cons rfl (fun K hK => ?_) AllReadyIn.nil
       go_simp
       refine hK _ _ ?_
       clear hK K
       refine wpAnyIn_done (by kernel_rfl) ?_ _
       have hF := HT.out w1 W4 hb1 hJ4 hk4
       gi_wp2
       exact hF
      ·refine hK _ _ ?_
       clear hK K hy' hR'
       refine wpAnyIn_ready (rs := [5]) (by kernel_rfl) (by simp) ?_
       refine AllReadyIn.cons rfl (fun K hK => ?_) AllReadyIn.nil
       go_simp
       refine hK _ _ ?_
       clear hK K
       refine wpAnyIn_done (by kernel_rfl) ?_ _
       have hF := HX.out w1 W4 hb1 hJ4 hk4
       gi_wp2
       exact ⟨hF.1, rfl, hF.2⟩
   ·go_simp
    refine hK _ _ ?_
    clear hK K
    refine wpAnyIn_ready (rs := [0, 1]) (by kernel_rfl) (by simp) ?_
    refine AllReadyIn.cons rfl (fun K hK => ?_) (AllReadyIn.cons rfl (fun K hK => ?_) AllReadyIn.nil)
    ·go_simp
     refine hK _ _ ?_
     clear hK K
     refine wpAnyIn_ready (rs := [1]) (by kernel_rfl) (by simp) ?_
     refine AllReadyIn.cons rfl (fun K hK => ?_) AllReadyIn.nil
     go_simp
     refine hK _ _ ?_
     clear hK K
     refine wpAnyIn_ready (rs := [3]) (by kernel_rfl) (by simp) ?_
     refine AllReadyIn.cons rfl (fun K hK => ?_) AllReadyIn.nil
     go_simp
     refine ⟨trivial, fun _ => by omega, ?_⟩
     refine (CallsIn.inRound l2 (callsIn_wide.2 (kj _))).mono ?_
     rintro e w1 ⟨rfl, hb⟩
     have hb1 : Below Z.heap.size Z w1 := (Below.refl _ Z).drew.trans hb
     clear hb
     have cy1 := (hb1.cell (p := ⟨W.heap.size, 0, none⟩) hNZ).trans cyz
     refine hK _ _ ?_
     clear hK K
     obtain ⟨fn', tmps', assign', body', hy', hR'⟩ := HNX.out w1 hb1
     refine wpAnyIn_ready (rs := [4]) (by kernel_rfl) (by simp) ?_
     refine AllReadyIn.cons rfl (fun K hK => ?_) AllReadyIn.nil
     go_simp
     refine ⟨fun _ => by omega, (round_in l2 hR').mono ?_⟩
     rintro e W4 (⟨rfl, hJ4, hk4⟩ | ⟨rfl, hJ4, hk4⟩)
     ·refine hK _ _ ?_
      clear hK K hy' hR'
      refine wpAnyIn_ready (rs := [5]) (by kernel_rfl) (by simp) ?_
      refine AllReadyIn.cons rfl (fun K hK => ?_) AllReadyIn.nil
      go_simp
      refine hK _ _ ?_
      clear hK K
      refine wpAnyIn_done (by kernel_rfl) ?_ _
      have hF := HT.out w1 W4 hb1 hJ4 hk4
      gi_wp2
      exact hF
     ·refine hK _ _ ?_
      clear hK K hy' hR'
      refine wpAnyIn_ready (rs := [5]) (by kernel_rfl) (by simp) ?_
      refine AllReadyIn.cons rfl (fun K hK => ?_) AllReadyIn.nil
      go_simp
      refine hK _ _ ?_
      clear hK K
      refine wpAnyIn_done (by kernel_rfl) ?_ _
      have hF := HX.out w1 W4 hb1 hJ4 hk4
      gi_wp2
      exact ⟨hF.1, rfl, hF.2⟩
    ·go_simp
     refine hK _ _ ?_
     clear hK K
     refine wpAnyIn_ready (rs := [0, 3]) (by kernel_rfl) (by simp) ?_
     refine AllReadyIn.cons rfl (fun K hK => ?_) (AllReadyIn.cons rfl (fun K hK => ?_) AllReadyIn.nil)
     ·go_simp
      refine hK _ _ ?_
      clear hK K
      refine wpAnyIn_ready (rs := [3]) (by kernel_rfl) (by simp) ?_
      refine AllReadyIn.cons rfl (fun K hK => ?_) AllReadyIn.nil
      go_simp
      refine ⟨trivial, fun _ => by omega, ?_⟩
      refine (CallsIn.inRound l2 (callsIn_wide.2 (kj _))).mono ?_
      rintro e w1 ⟨rfl, hb⟩
      have hb1 : Below Z.heap.size Z w1 := (Below.refl _ Z).drew.trans hb
      clear hb
      have cy1 := (hb1.cell (p := ⟨W.heap.size, 0, none⟩) hNZ).trans cyz
      refine hK _ _ ?_
      clear hK K
      obtain ⟨fn', tmps', assign', body', hy', hR'⟩ := HNX.out w1 hb1
      refine wpAnyIn_ready (rs := [4]) (by kernel_rfl) (by simp) ?_
      refine AllReadyIn.cons rfl (fun K hK => ?_) AllReadyIn.nil
      go_simp
      refine ⟨fun _ => by omega, (round_in l2 hR').mono ?_⟩
      rintro e W4 (⟨rfl, hJ4, hk4⟩ | ⟨rfl, hJ4, hk4⟩)
      ·refine hK _ _ ?_
       clear hK K hy' hR'
       refine wpAnyIn_ready (rs := [5]) (by kernel_rfl) (by simp) ?_
       refine AllReadyIn.cons rfl (fun K hK => ?_) AllReadyIn.nil
       go_simp
       refine hK _ _ ?_
       clear hK K
       refine wpAnyIn_done (by kernel_rfl) ?_ _
       have hF := HT.out w1 W4 hb1 hJ4 hk4
       gi_wp2
       exact hF
      ·refine hK _ _ ?_
       clear hK K hy' hR'
       refine wpAnyIn_ready (rs := [5]) (by kernel_rfl) (by simp) ?_
       refine AllReadyIn.cons rfl (fun K hK => ?_) AllReadyIn.nil
       go_simp
       refine hK _ _ ?_
       clear hK K
       refine wpAnyIn_done (by kernel_rfl) ?_ _
       have hF := HX.out w1 W4 hb1 hJ4 hk4
       gi_wp2
       exact ⟨hF.1, rfl, hF.2⟩
     ·go_simp
      refine ⟨trivial, fun _ => by omega, ?_⟩
      refine (CallsIn.inRound l2 (callsIn_wide.2 (kj _))).mono ?_
      rintro e w1 ⟨rfl, hb⟩
      have hb1 : Below Z.heap.size Z w1 := (Below.refl _ Z).drew.trans hb
      clear hb
      have cy1 := (hb1.cell (p := ⟨W.heap.size, 0, none⟩) hNZ).trans cyz
      refine hK _ _ ?_
      clear hK K
      refine wpAnyIn_ready (rs := [0]) (by kernel_rfl) (by simp) ?_
      refine AllReadyIn.cons rfl (fun K hK => ?_) AllReadyIn.nil
      go_simp
      refine hK _ _ ?_
      clear hK K
      obtain ⟨fn', tmps', assign', body', hy', hR'⟩ := HNX.out w1 hb1
      refine wpAnyIn_ready (rs := [4]) (by kernel_rfl) (by simp) ?_
      refine AllReadyIn.cons rfl (fun K hK => ?_) AllReadyIn.nil
      go_simp
      refine ⟨fun _ => by omega, (round_in l2 hR').mono ?_⟩
      rintro e W4 (⟨rfl, hJ4, hk4⟩ | ⟨rfl, hJ4, hk4⟩)
      ·refine hK _ _ ?_
       clear hK K hy' hR'
       refine wpAnyIn_ready (rs := [5]) (by kernel_rfl) (by simp) ?_
       refine AllReadyIn.cons rfl (fun K hK => ?_) AllReadyIn.nil
       go_simp
       refine hK _ _ ?_
       clear hK K
       refine wpAnyIn_done (by kernel_rfl) ?_ _
       have hF := HT.out w1 W4 hb1 hJ4 hk4
       gi_wp2
       exact hF
      ·refine hK _ _ ?_
       clear hK K hy' hR'
       refine wpAnyIn_ready (rs := [5]) (by kernel_rfl) (by simp) ?_
       refine AllReadyIn.cons rfl (fun K hK => ?_) AllReadyIn.nil
       go_simp
       refine hK _ _ ?_
       clear hK K
       refine wpAnyIn_done (by kernel_rfl) ?_ _
       have hF := HX.out w1 W4 hb1 hJ4 hk4
       gi_wp2
       exact ⟨hF.1, rfl, hF.2⟩
  case done =>
   rintro D ys Z hD hys ⟨hJz, _⟩ hK
   have hDZ : D < Z.heap.size := (Array.getElem?_eq_some_iff.1 hK).1
   have hJ4 := HJ.out _ _ _ hJz (below_putObj (.deferred none) (by omega : W.heap.size ≤ D) hDZ)
   have hall : ([x0] ++ ys.map (jnW (tl name))).map bytesOf = plL L (tl name) (tl dirs) := by
    rw [HPL.out, List.map_append, List.map_singleton, HX2.out, map_jn _ _ HNL.out (fun z hz => Nat.le_trans (HSH.out z (hys ▸ hz)) (by decide)), hys]
   have HA := hide' hall
   have HJ4 := hide' hJ4
   clear hJz hall hJ4 hys hseq hJ3 hK3
   gi_wp2
   refine ⟨by simp, .inl ⟨_, _, rfl, run_takeDeferred hK, ?_⟩⟩
   refine ⟨_, results_none rfl _ _ _, ?_⟩
   exact ⟨⟨_, rfl⟩, .inl ⟨_, HA.out, HJ4.out⟩⟩
  case stop =>
   rintro D c pre Z hD _ ⟨rfl, pre2, hJz⟩ hK
   have hDZ : D < Z.heap.size := (Array.getElem?_eq_some_iff.1 hK).1
   have hJ4 := HJX.out _ _ _ hJz (below_putObj (.deferred none) (by omega : W.heap.size ≤ D) hDZ)
   have HJ4 := hide' hJ4
   clear hJz hJ4 hseq hJ3 hK3
   gi_wp2
   refine ⟨by simp, .inl ⟨_, _, rfl, run_takeDeferred hK, ?_⟩⟩
   refine ⟨_, results_none rfl _ _ _, ?_⟩
   exact ⟨⟨_, rfl⟩, .inr ⟨_, trivial, HJ4.out⟩⟩
theorem places_seq (n : Nat) (hn : 4 ≤ n) (Bb Bn Bd : Nat) (a : Option Addr) (m cap : Nat) (L : List Prw) (name dirs : ByteArray) (hm : m ≤ 1000000) (hns : name.size ≤ 100000) (hds : dirs.size ≤ 100000) (hls : ∀ p ∈ L, p.1.size ≤ 100000 ∧ p.2.size ≤ 100000) (w : World)
  (hC : DrC w Bb Bn Bd a m cap L name dirs) :
  SeqL n Tryz.prog 55 #[.pointer (some ⟨Bn, 0, none⟩), .pointer (some ⟨Bb, 0, none⟩), .pointer (some ⟨Bd, 0, none⟩)] (fun x : Wd => #[.string x.1]) (fun pre x => (pre ++ [x]).map bytesOf <+: plL L (tl name) (tl dirs)) (fun ys => ys.map bytesOf = plL L (tl name) (tl dirs)) (fun _ => True) w :=
 fun l J Jx W hW hJ hJx hY h0 => places1_in n l hn Bb Bn Bd a m cap L name dirs hm hns hds hls J Jx W (hC.lies (Lies.below hW)) hJ hJx hY h0
end Go.Proofs.YtabmnkddmdffkaaGreatDoor.Sk
