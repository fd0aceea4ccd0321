import Derived.Test.YtabmnkddmdffkaaGreatDoorALookG
import Derived.Test.YtabmnkddmdffkaaGreatDoorAErr
import Derived.Test.YtabmnkddmdffkaaGreatDoorALook2
namespace Go.Proofs.YtabmnkddmdffkaaGreatDoor
open Go.RowKit Go.Maps
theorem Own.sub {w : World} {S : Nat → Prop} {A M : Nat} {L L' : Ents} (h : Own w S A M L) (hs : ∀ e ∈ L', e ∈ L) : Own w S A M L' :=
 ⟨h.sA, h.sM, fun e he => h.sB e (hs e he), fun e he => h.sD e (hs e he), fun e he => h.dat e (hs e he), fun a ha b hb => h.apB a (hs a ha) b (hs b hb), fun a ha b hb => h.apD a (hs a ha) b (hs b hb)⟩
theorem dat_ne {w : World} {v : Value} {bs : Bs} {A M : Nat} {wt clk rm : Int} (h : Dat w v bs) (hf : Fb w A M wt clk rm) : ∀ g, v.ownBlock = some g → g ≠ A := by
 intro g hg e
 obtain ⟨cur, hc⟩ := h.elem g hg
 unfold Fb at hf
 rw [e, hf] at hc
 simp at hc
theorem dat_ne_map {w : World} {v : Value} {bs : Bs} {M : Nat} {L : Ents} (h : Dat w v bs) (hm : Mp w M L) : ∀ g, v.ownBlock = some g → g ≠ M := by
 intro g hg e
 obtain ⟨cur, hc⟩ := h.elem g hg
 obtain ⟨es, c, hmm⟩ := hm.isMap
 rw [e, hmm] at hc
 cases hc
theorem dat_ne_node {w : World} {v : Value} {bs : Bs} {e : En} (h : Dat w v bs) (hn : NodeAt w e) : ∀ g, v.ownBlock = some g → g ≠ e.blk := by
 intro g hg e1
 obtain ⟨cur, hc⟩ := h.elem g hg
 unfold NodeAt at hn
 rw [e1, hn] at hc
 simp at hc
theorem Mp.congr {w : World} {M : Nat} {L L' : Ents} (h : Mp w M L) (hb : blks L' = blks L) : Mp w M L' := by
 have hl : L'.length = L.length := by have := congrArg List.length hb; simpa [blks] using this
 unfold Mp at h ⊢
 rw [hb, hl]; exact h
theorem put_aged (L : Ents) (p : Bs) (e : En) (t : Int) : blks (put L p (aged e t)) = blks (put L p e) := by rw [blks_put, blks_put]; rfl
def withNode (S : Nat → Prop) (e : En) : Nat → Prop := fun i => S i ∨ i = e.blk ∨ e.dv.ownBlock = some i
theorem fs_put {w w3 : World} {S : Nat → Prop} {A M : Nat} {L : Ents} {wt clk rm wt' clk' : Int} {p : Bs} {e : En} {t : Int} (h : FsAt w A M L wt clk rm) (o : Own w S A M (del L p)) (hp : p.length ≤ 1000)
  (hn : NodeAt w e) (hd : Dat w e.dv e.nd.data) (hfb : ∀ x ∈ del L p, x.2.blk ≠ e.blk) (hfd : ∀ x ∈ del L p, ∀ g, x.2.dv.ownBlock = some g → e.dv.ownBlock ≠ some g)
  (h3 : Fb w3 A M wt' clk' rm) (m3 : Mp w3 M (put L p e)) (n3 : NodeAt w3 (aged e t)) (ht : Turn (Three A M e.blk) w w3) :
  FsAt w3 A M (put L p (aged e t)) wt' clk' rm ∧ Own w3 (withNode S e) A M (put L p (aged e t)) := by
 have hA := node_ne hn h.fb
 have hM := node_ne_map hn h.mp
 have keepB : ∀ x ∈ del L p, w3.heap[x.2.blk]? = w.heap[x.2.blk]? := fun x hx => by
  have hx' := h.nodes x (mem_del.1 hx).1
  refine ht.block _ hx'.lt (fun hs => ?_)
  rcases hs with e1 | e1 | e1
  ·exact node_ne hx' h.fb e1
  ·exact node_ne_map hx' h.mp e1
  ·exact hfb x hx e1
 have keepD : ∀ x ∈ del L p, ∀ g, x.2.dv.ownBlock = some g → w3.heap[g]? = w.heap[g]? := fun x hx g hg => by
  have hx' := o.dat x hx
  refine ht.block _ (hx'.lt g hg) (fun hs => ?_)
  rcases hs with e1 | e1 | e1
  ·exact dat_ne hx' h.fb g hg e1
  ·exact dat_ne_map hx' h.mp g hg e1
  ·exact dat_ne_node hx' hn g hg e1
 have keepE : ∀ g, e.dv.ownBlock = some g → w3.heap[g]? = w.heap[g]? := fun g hg => by
  refine ht.block _ (hd.lt g hg) (fun hs => ?_)
  rcases hs with e1 | e1 | e1
  ·exact dat_ne hd h.fb g hg e1
  ·exact dat_ne_map hd h.mp g hg e1
  ·exact dat_ne_node hd hn g hg e1
 have hd3 : Dat w3 e.dv e.nd.data := hd.kept keepE
 have cases_ : ∀ x ∈ put L p (aged e t), x = (p, aged e t) ∨ x ∈ del L p := fun x hx => by
  rcases mem_put.1 hx with h1 | h1
  ·exact .inl h1
  ·exact .inr (mem_del.2 h1)
 refine ⟨⟨h3, m3.congr (put_aged L p e t), ?_, ?_, h.srt.put _ _, ?_⟩, ⟨.inl o.sA, .inl o.sM, ?_, ?_, ?_, ?_, ?_⟩⟩
 ·intro x hx
  rcases cases_ x hx with rfl | hx
  ·exact n3
  ·exact (keepB x hx).trans (h.nodes x (mem_del.1 hx).1)
 ·intro x hx
  rcases cases_ x hx with rfl | hx
  ·exact hd3.rds
  ·exact ((o.dat x hx).kept (keepD x hx)).rds
 ·intro x hx
  rcases cases_ x hx with rfl | hx
  ·exact hp
  ·exact h.keys x (mem_del.1 hx).1
 ·intro x hx
  rcases cases_ x hx with rfl | hx
  ·exact .inr (.inl rfl)
  ·exact .inl (o.sB x hx)
 ·intro x hx g hg
  rcases cases_ x hx with rfl | hx
  ·exact .inr (.inr hg)
  ·exact .inl (o.sD x hx g hg)
 ·intro x hx
  rcases cases_ x hx with rfl | hx
  ·exact hd3
  ·exact (o.dat x hx).kept (keepD x hx)
 ·intro a ha b hb hab
  rcases cases_ a ha with rfl | ha
  ·rcases cases_ b hb with rfl | hb
   ·rfl
   ·exact absurd hab.symm (hfb b hb)
  ·rcases cases_ b hb with rfl | hb
   ·exact absurd hab (hfb a ha)
   ·exact o.apB a ha b hb hab
 ·intro a ha b hb g hga hgb
  rcases cases_ a ha with rfl | ha
  ·rcases cases_ b hb with rfl | hb
   ·rfl
   ·exact absurd hga (hfd b hb g hgb)
  ·rcases cases_ b hb with rfl | hb
   ·exact absurd hgb (hfd a ha g hga)
   ·exact o.apD a ha b hb g hga hgb
structure IsFs (w : World) (S : Nat → Prop) (A : Nat) (T : List (Bs × Nd)) (clk rm : Int) : Prop where
 mem : ∃ M L, FsAt w A M L (weight T) clk rm ∧ Own w S A M L ∧ nds L = T
 wt : (weight T : Int) ≤ rm
 rm : rm ≤ 1048576
 clk0 : 0 ≤ clk
 len : T.length ≤ 1000
theorem sumOf_ge {α : Type} (f : α → Nat) {L : List (Bs × α)} {x : Bs × α} (h : x ∈ L) : f x.2 ≤ sumOf f L := by
 induction L with
 | nil => cases h
 | cons y r ih =>
  rcases List.mem_cons.1 h with rfl | h
  ·simp only [sumOf]; omega
  ·have := ih h; simp only [sumOf]; omega
theorem weight_nds (L : Ents) : weight (nds L) = sumOf (fun e => e.nd.wt) L := sumOf_map _ _ _
theorem data_le {L : Ents} {n : Nat} (h : weight (nds L) ≤ n) : ∀ e ∈ L, e.2.nd.data.length ≤ n := fun e he => by
 rw [weight_nds] at h
 have := sumOf_ge (fun e : En => e.nd.wt) he
 simp only [Nd.wt] at this
 simp only [Nd.wt] at h
 omega
theorem wtAt_sum {L : Ents} (h : Srt L) (p : Bs) : sumOf (fun e : En => e.nd.wt) (del L p) + wtAt L p = sumOf (fun e : En => e.nd.wt) L := by
 have := sumOf_del (fun e : En => e.nd.wt) h p
 unfold wtAt
 cases hf : fnd L p <;> rw [hf] at this <;> exact this
theorem weight_put {L : Ents} (h : Srt L) (p : Bs) (e : En) : (weight (nds (put L p e)) : Int) = weight (nds L) - wtAt L p + e.nd.wt := by
 rw [weight_nds, weight_nds, sumOf_put]
 have := wtAt_sum h p
 omega
theorem IsFs.below {w w' : World} {S : Nat → Prop} {A : Nat} {T : List (Bs × Nd)} {clk rm : Int} (h : IsFs w S A T clk rm) (hb : Below w.heap.size w w') : IsFs w' S A T clk rm := by
 obtain ⟨M, L, h1, h2, h3⟩ := h.mem
 exact ⟨⟨M, L, h1.below hb, h2.below hb, h3⟩, h.wt, h.rm, h.clk0, h.len⟩
end Go.Proofs.YtabmnkddmdffkaaGreatDoor
namespace Go.Proofs.YtabmnkddmdffkaaGreatDoor
open Go.RowKit
inductive Er where
 | ok
 | no (n : Nat)
 | nothing
def Er.num : Er → Nat
 | .ok => 0
 | .no n => n
 | .nothing => 10
def IsErr (w : World) (E : Addr) (v : Value) : Er → Prop
 | .ok => v = .nilIface
 | .no n => ∃ b, v = .iface 105 (.pointer (some ⟨b, 0, none⟩)) ∧ Flt w b n
 | .nothing => ∃ b, v = .iface 105 (.pointer (some ⟨b, 0, none⟩)) ∧ FltN w b E
theorem Flt.below {w w' : World} {b : Nat} {n : Int} (h : Flt w b n) (hb : Below w.heap.size w w') : Flt w' b n := by
 obtain ⟨p, h⟩ := h
 exact ⟨p, (hb.block b (lt_of_block h)).trans h⟩
theorem Flt.c1 {w : World} {b : Nat} {n : Int} (h : Flt w b n) : w.cell? ⟨b, 1, none⟩ = some (.iface 31 (.int .i64 n)) := by
 obtain ⟨p, h⟩ := h
 rw [Lib.cell_of_heap h]; rfl
theorem FltN.c1 {w : World} {b : Nat} {E : Addr} (h : FltN w b E) : w.cell? ⟨b, 1, none⟩ = some (.iface 289 (.pointer (some E))) := by
 obtain ⟨p, h⟩ := h
 rw [Lib.cell_of_heap h]; rfl
set_option maxHeartbeats 1000000 in
theorem number_any (B : Nat) (E : Addr) (v : Value) (k : Er) (w : World) (hG : Glo B w E) (hv : IsErr w E v k) :
  Calls Tryz.prog 22 #[v] w fun r w' => r = .returned (.int .i64 (k.num : Nat)) ∧ Below w.heap.size w w' := by
 have c0 := hG.c0
 cases k with
 | ok =>
  obtain rfl : v = .nilIface := hv
  go_enter Tryz.func22, Tryz.ntmps22
  go_wp2_with fail
  refine (is_nil E _).mono ?_
  rintro r w1 ⟨rfl, rfl⟩
  go_wp2_with fail
  refine (as_nil _ _).mono ?_
  rintro r w1 ⟨rfl, rfl⟩
  go_wp2
  go_ret
  exact ⟨rfl, (Below.refl _ _).alloc (Nat.le_refl _) _⟩
 | nothing =>
  obtain ⟨b, rfl, hf⟩ := hv
  have q := is_hit b E w hf.c1
  go_enter Tryz.func22, Tryz.ntmps22
  go_wp2_with fail
  refine q.mono ?_
  rintro r w1 ⟨rfl, rfl⟩
  go_wp2
  go_ret
  exact ⟨rfl, Below.refl _ _⟩
 | no n =>
  obtain ⟨b, rfl, hf⟩ := hv
  have q := is_miss b n E w hf.c1
  have hb : Below w.heap.size w (w.alloc (.cells #[.int .i64 0] 31)) := (Below.refl _ _).alloc (Nat.le_refl _) _
  have hlt : 2 < w.heap.size := lt_of_cell? hG.c1
  have q2 := as_fault b n ⟨w.heap.size, 0, none⟩ (.int .i64 0) (w.alloc (.cells #[.int .i64 0] 31)) ((hb.cell (p := ⟨2, 0, none⟩) hlt).trans hG.c1) (hf.below hb).c1 (by simp) (by simp)
  generalize hX : (((((w.alloc (.cells #[.int .i64 0] 31)).alloc (.cells #[.pointer (some ⟨w.heap.size, 0, none⟩)] 111)).alloc (.cells #[.pointer (some ⟨12, 111, none⟩), .pointer (some ⟨(w.alloc (.cells #[.int .i64 0] 31)).heap.size, 0, none⟩), .int .u64 150] 136)).alloc (.cells #[.pointer (some ⟨12, 111, none⟩), .pointer (some ⟨(w.alloc (.cells #[.int .i64 0] 31)).heap.size, 0, none⟩), .int .u64 150] 136)).alloc (.cells #[.int .i64 n] 31)).setCell ⟨w.heap.size, 0, none⟩ (.int .i64 n) = X at q2
  have cx : X.cell? ⟨w.heap.size, 0, none⟩ = some (.int .i64 n) := by
   rw [← hX]
   refine World.cell?_setCell_same' _ _ _ ?_
   rw [World.cell?_alloc_lt _ _ ⟨w.heap.size, 0, none⟩ (by simp; omega), World.cell?_alloc_lt _ _ ⟨w.heap.size, 0, none⟩ (by simp; omega), World.cell?_alloc_lt _ _ ⟨w.heap.size, 0, none⟩ (by simp; omega), World.cell?_alloc_lt _ _ ⟨w.heap.size, 0, none⟩ (by simp)]
   simp
  have hbX : Below w.heap.size w X := by
   rw [← hX]
   exact (((((hb.alloc (by simp) _).alloc (by simp; omega) _).alloc (by simp; omega) _).alloc (by simp; omega) _).setCell (p := ⟨w.heap.size, 0, none⟩) (Nat.le_refl _) _)
  clear hX
  go_enter Tryz.func22, Tryz.ntmps22
  go_wp2_with fail
  refine q.mono ?_
  rintro r w1 ⟨rfl, rfl⟩
  go_wp2_with fail
  refine q2.mono ?_
  rintro r w2 ⟨rfl, rfl⟩
  go_wp2
  go_ret
  exact ⟨rfl, hbX⟩
end Go.Proofs.YtabmnkddmdffkaaGreatDoor
namespace Go.Proofs.YtabmnkddmdffkaaGreatDoor
open Go.RowKit Go.Maps
theorem valid_len {p : Bs} (h : valid p = true) : p.length ≤ 1000 := by
 unfold valid at h
 simp only [Bool.and_eq_true, decide_eq_true_eq] at h
 exact h.1.1
theorem look_any (B A M : Nat) (L : Ents) (wt clk rm : Int) (p : Bs) (w : World) (E : Addr) (h : FsAt w A M L wt clk rm) (hG : Glo B w E) (hB : B ≤ w.heap.size) (hp : p.length ≤ 1000000) :
  Calls Tryz.prog 72 #[.pointer (some ⟨A, 0, none⟩), .string (mk p)] w fun r w' => LkRes w.heap.size w' r E (lookV L p) ∧ Below w.heap.size w w' := by
 unfold lookV
 cases hv : valid p with
 | true => exact look_ok B A M L wt clk rm p w E h hG hB (valid_len hv) hv
 | false => exact look_bad A p w E hp hv
def fileOf : Lk En → Lk En
 | .rt => .bad 12
 | .is e => if e.nd.dir then .bad 12 else .is e
 | x => x
theorem lookV_mem {L : Ents} {p : Bs} {e : En} (h : lookV L p = .is e) : ∃ k, (k, e) ∈ L := by
 unfold lookV at h
 split at h
 ·exact lookE_mem h
 ·cases h
theorem NodeAt.below {w w' : World} {e : En} (h : NodeAt w e) (hb : Below w.heap.size w w') : NodeAt w' e := (hb.block _ h.lt).trans h
set_option maxHeartbeats 1000000 in
theorem file_any (B A M : Nat) (L : Ents) (wt clk rm : Int) (p : Bs) (w : World) (E : Addr) (h : FsAt w A M L wt clk rm) (hG : Glo B w E) (hB : B ≤ w.heap.size) (hp : p.length ≤ 1000000) :
  Calls Tryz.prog 107 #[.pointer (some ⟨A, 0, none⟩), .string (mk p)] w fun r w' => LkRes w.heap.size w' r E (fileOf (lookV L p)) ∧ Below w.heap.size w w' := by
 have q := look_any B A M L wt clk rm p w E h hG hB hp
 cases hl : lookV L p with
 | bad n =>
  rw [hl] at q
  go_enter Tryz.func107, Tryz.ntmps107
  go_wp2_with fail
  refine q.mono ?_
  rintro r w1 ⟨⟨b, rfl, hf⟩, hb⟩
  go_wp2
  go_ret2
  exact ⟨⟨b, rfl, hf⟩, hb⟩
 | non =>
  rw [hl] at q
  go_enter Tryz.func107, Tryz.ntmps107
  go_wp2_with fail
  refine q.mono ?_
  rintro r w1 ⟨⟨b, rfl, hf⟩, hb⟩
  go_wp2
  go_ret2
  exact ⟨⟨b, rfl, hf⟩, hb⟩
 | rt =>
  rw [hl] at q
  go_enter Tryz.func107, Tryz.ntmps107
  go_wp2_with fail
  refine q.mono ?_
  rintro r w1 ⟨⟨b, hbN, rfl, hn⟩, hb⟩
  have c0 : w1.cell? ⟨b, 0, none⟩ = some (.bool true) := hn.c0
  go_wp2
  go_ret2
  exact ⟨⟨w1.heap.size, rfl, _, heap_alloc_new w1 _⟩, hb.alloc hb.size _⟩
 | is e =>
  rw [hl] at q
  obtain ⟨k, hm⟩ := lookV_mem hl
  have hn : NodeAt w e := h.nodes _ hm
  cases hd : e.nd.dir with
  | true =>
   have e1 : fileOf (.is e) = .bad 12 := by simp [fileOf, hd]
   rw [e1]
   go_enter Tryz.func107, Tryz.ntmps107
   go_wp2_with fail
   refine q.mono ?_
   rintro r w1 ⟨rfl, hb⟩
   have c0 := (hn.below hb).c0
   rw [hd] at c0
   go_wp2
   go_ret2
   exact ⟨⟨w1.heap.size, rfl, _, heap_alloc_new w1 _⟩, hb.alloc hb.size _⟩
  | false =>
   have e1 : fileOf (.is e) = .is e := by simp [fileOf, hd]
   rw [e1]
   go_enter Tryz.func107, Tryz.ntmps107
   go_wp2_with fail
   refine q.mono ?_
   rintro r w1 ⟨rfl, hb⟩
   have c0 := (hn.below hb).c0
   rw [hd] at c0
   go_wp2
   go_ret2
   exact ⟨rfl, hb⟩
end Go.Proofs.YtabmnkddmdffkaaGreatDoor
namespace Go.Proofs.YtabmnkddmdffkaaGreatDoor
open Go.RowKit Go.Maps
abbrev Tr := List (Bs × Nd)
def lookN (T : Tr) (p : Bs) : Lk Nd := if valid p then lookP (fun n => n.dir) T p else .bad 16
abbrev Out := Nat × Tr × Int
theorem lookV_nd (L : Ents) (p : Bs) : lookN (nds L) p = (lookV L p).map En.nd := by
 unfold lookN lookV
 split
 ·exact lookP_map En.nd (fun n => n.dir) L p
 ·rfl
end Go.Proofs.YtabmnkddmdffkaaGreatDoor
namespace Go.Proofs.YtabmnkddmdffkaaGreatDoor
open Go.RowKit Go.Maps
end Go.Proofs.YtabmnkddmdffkaaGreatDoor
namespace Go.Proofs.YtabmnkddmdffkaaGreatDoor
open Go.RowKit Go.Maps
end Go.Proofs.YtabmnkddmdffkaaGreatDoor
namespace Go.Proofs.YtabmnkddmdffkaaGreatDoor
open Go.RowKit Go.Maps
theorem orEmpty_some (A : Nat) (w : World) : Calls Tryz.prog 40 #[.pointer (some ⟨A, 0, none⟩)] w fun r w' => r = .returned (.pointer (some ⟨A, 0, none⟩)) ∧ w' = w := by
 have hn : ∀ w : World, (binOp .eql 30 (.pointer (some ⟨A, 0, none⟩)) (.pointer none)).run Tryz.prog w = .ok (.bool false) w := fun w => by kernel_rfl
 go_enter Tryz.func40, Tryz.ntmps40
 go_wp2
 go_ret
 exact ⟨rfl, rfl⟩
theorem cln_len (s : ByteArray) (hs : s.size ≤ 400000) : (clean (tl s)).length ≤ 1000000 := by have := clean_len (tl s); rw [tl_len] at this; omega
def statR (T : Tr) (p : Bs) : Int × Int × Int :=
 match lookN T p with
 | .bad _ => (0, 0, 0)
 | .non => (0, 0, 0)
 | .rt => (2, 0, 0)
 | .is n => if n.dir then (2, n.time, 0) else (1, n.time, n.data.length)
def statV (x : Int × Int × Int) : Value := .agg #[.int .i64 x.1, .int .i64 x.2.1, .int .i64 x.2.2]
theorem res27 (tmps : Array Value) (b : Nat) (x y z : Value) (W : World) (h4 : tmps.getD 4 undef = .pointer (some ⟨b, 0, none⟩)) (hb : W.heap[b]? = some (.cells #[x, y, z] 88 (0, 0))) : (results Tryz.f63 tmps).run Tryz.prog W = .ok (.agg #[x, y, z]) W := by
 simp only [Array.getD_eq_getD_getElem?] at h4
 have c0 : W.cell? ⟨b, 0, none⟩ = some x := by rw [Lib.cell_of_heap hb]; rfl
 have c1 : W.cell? ⟨b, 1, none⟩ = some y := by rw [Lib.cell_of_heap hb]; rfl
 have c2 : W.cell? ⟨b, 2, none⟩ = some z := by rw [Lib.cell_of_heap hb]; rfl
 simp [results, Tryz.results63, go_sem, h4, c0, c1, c2]
theorem stat_end {w w2 : World} {x y z : Value} (hB : Below w.heap.size w w2) (hz : w2.heap[w.heap.size]? = some (.cells #[.int .i64 0, .int .i64 0, .int .i64 0] 88 (0, 0))) :
  (((w2.setCell ⟨w.heap.size, 0, none⟩ x).setCell ⟨w.heap.size, 1, none⟩ y).setCell ⟨w.heap.size, 2, none⟩ z).heap[w.heap.size]? = some (.cells #[x, y, z] 88 (0, 0)) ∧ Below w.heap.size w (((w2.setCell ⟨w.heap.size, 0, none⟩ x).setCell ⟨w.heap.size, 1, none⟩ y).setCell ⟨w.heap.size, 2, none⟩ z) :=
 ⟨set_row (set_row (set_row hz 0 x) 1 y) 2 z, ((hB.setCell (p := ⟨w.heap.size, 0, none⟩) (Nat.le_refl _) _).setCell (p := ⟨w.heap.size, 1, none⟩) (Nat.le_refl _) _).setCell (p := ⟨w.heap.size, 2, none⟩) (Nat.le_refl _) _⟩
set_option maxRecDepth 100000 in
set_option maxHeartbeats 2000000 in
theorem Stat_any (B A : Nat) (E : Addr) (T : Tr) (clk rm : Int) (s : ByteArray) (S : Nat → Prop) (w : World) (h : IsFs w S A T clk rm) (hG : Glo B w E) (hB : B ≤ w.heap.size) (hs : s.size ≤ 400000) :
  Calls Tryz.prog 63 #[.pointer (some ⟨A, 0, none⟩), .string s] w fun r w' => r = .returned (statV (statR T (clean (tl s)))) ∧ Below w.heap.size w w' := by
 obtain ⟨M, L, hF, hO, rfl⟩ := h.mem
 have hb0 : Below w.heap.size w (w.alloc (.cells #[.int .i64 0, .int .i64 0, .int .i64 0] 88)) := (Below.refl _ _).alloc (Nat.le_refl _) _
 have q1 := clean_any s (by omega)
 have q2 := fun w1 (hb : Below w.heap.size w w1) => look_any B A M L (weight (nds L)) clk rm (clean (tl s)) w1 E (hF.below hb) (hG.keep (hb.mono hB)) (Nat.le_trans hB hb.size) (cln_len s hs)
 unfold statR
 rw [lookV_nd]
 have hz : ∀ w1, Below (w.heap.size + 1) (w.alloc (.cells #[.int .i64 0, .int .i64 0, .int .i64 0] 88)) w1 → w1.heap[w.heap.size]? = some (.cells #[.int .i64 0, .int .i64 0, .int .i64 0] 88 (0, 0)) := fun w1 hb => (hb.block _ (by omega)).trans (World.alloc_heap_new w _)
 have hsz : (w.alloc (.cells #[.int .i64 0, .int .i64 0, .int .i64 0] 88)).heap.size = w.heap.size + 1 := by simp
 have HZ := hide' hz
 have Hb0 := hide' hb0
 clear hz hb0
 generalize clean (tl s) = c at q1 q2
 cases hl : lookV L c with
 | bad n =>
  rw [hl] at q2
  simp only [Lk.map]
  go_enter Tryz.func63, Tryz.ntmps63
  go_wp2_with fail
  refine (orEmpty_some A _).mono ?_
  rintro r w0 ⟨rfl, rfl⟩
  go_wp2_with fail
  refine (q1 _).mono ?_
  rintro r w1 ⟨rfl, hb1⟩
  have hB1 : Below w.heap.size w w1 := Hb0.out.trans (hb1.mono (by simp))
  go_wp2_with fail
  refine (q2 w1 hB1).mono ?_
  rintro r w2 ⟨⟨b, rfl, hf⟩, hb2⟩
  have hB2 : Below w.heap.size w w2 := hB1.trans (hb2.mono hB1.size)
  rw [hsz] at hb1
  have hzz := HZ.out w2 (hb1.trans (hb2.mono (by have := hb1.size; rw [hsz] at this; exact this)))
  have z0 : w2.cell? ⟨w.heap.size, 0, none⟩ = some (.int .i64 0) := by rw [Lib.cell_of_heap hzz]; rfl
  have z1 : w2.cell? ⟨w.heap.size, 1, none⟩ = some (.int .i64 0) := by rw [Lib.cell_of_heap hzz]; rfl
  have z2 : w2.cell? ⟨w.heap.size, 2, none⟩ = some (.int .i64 0) := by rw [Lib.cell_of_heap hzz]; rfl
  have f0 := Lib.frozen_of_heap hzz 0
  have f1 := Lib.frozen_of_heap hzz 1
  have f2 := Lib.frozen_of_heap hzz 2
  have hend := fun x y z => stat_end (x := x) (y := y) (z := z) hB2 hzz
  clear hzz
  go_wp2
  refine bodyPost_ret (res27 _ _ _ _ _ _ rfl (hend _ _ _).1) rfl ?_
  exact ⟨rfl, (hend _ _ _).2⟩
 | non =>
  rw [hl] at q2
  simp only [Lk.map]
  go_enter Tryz.func63, Tryz.ntmps63
  go_wp2_with fail
  refine (orEmpty_some A _).mono ?_
  rintro r w0 ⟨rfl, rfl⟩
  go_wp2_with fail
  refine (q1 _).mono ?_
  rintro r w1 ⟨rfl, hb1⟩
  have hB1 : Below w.heap.size w w1 := Hb0.out.trans (hb1.mono (by simp))
  go_wp2_with fail
  refine (q2 w1 hB1).mono ?_
  rintro r w2 ⟨⟨b, rfl, hf⟩, hb2⟩
  have hB2 : Below w.heap.size w w2 := hB1.trans (hb2.mono hB1.size)
  rw [hsz] at hb1
  have hzz := HZ.out w2 (hb1.trans (hb2.mono (by have := hb1.size; rw [hsz] at this; exact this)))
  have z0 : w2.cell? ⟨w.heap.size, 0, none⟩ = some (.int .i64 0) := by rw [Lib.cell_of_heap hzz]; rfl
  have z1 : w2.cell? ⟨w.heap.size, 1, none⟩ = some (.int .i64 0) := by rw [Lib.cell_of_heap hzz]; rfl
  have z2 : w2.cell? ⟨w.heap.size, 2, none⟩ = some (.int .i64 0) := by rw [Lib.cell_of_heap hzz]; rfl
  have f0 := Lib.frozen_of_heap hzz 0
  have f1 := Lib.frozen_of_heap hzz 1
  have f2 := Lib.frozen_of_heap hzz 2
  have hend := fun x y z => stat_end (x := x) (y := y) (z := z) hB2 hzz
  clear hzz
  go_wp2
  refine bodyPost_ret (res27 _ _ _ _ _ _ rfl (hend _ _ _).1) rfl ?_
  exact ⟨rfl, (hend _ _ _).2⟩
 | rt =>
  rw [hl] at q2
  simp only [Lk.map]
  go_enter Tryz.func63, Tryz.ntmps63
  go_wp2_with fail
  refine (orEmpty_some A _).mono ?_
  rintro r w0 ⟨rfl, rfl⟩
  go_wp2_with fail
  refine (q1 _).mono ?_
  rintro r w1 ⟨rfl, hb1⟩
  have hB1 : Below w.heap.size w w1 := Hb0.out.trans (hb1.mono (by simp))
  go_wp2_with fail
  refine (q2 w1 hB1).mono ?_
  rintro r w2 ⟨⟨b, hbN, rfl, hn⟩, hb2⟩
  have hB2 : Below w.heap.size w w2 := hB1.trans (hb2.mono hB1.size)
  rw [hsz] at hb1
  have hzz := HZ.out w2 (hb1.trans (hb2.mono (by have := hb1.size; rw [hsz] at this; exact this)))
  have z0 : w2.cell? ⟨w.heap.size, 0, none⟩ = some (.int .i64 0) := by rw [Lib.cell_of_heap hzz]; rfl
  have z1 : w2.cell? ⟨w.heap.size, 1, none⟩ = some (.int .i64 0) := by rw [Lib.cell_of_heap hzz]; rfl
  have z2 : w2.cell? ⟨w.heap.size, 2, none⟩ = some (.int .i64 0) := by rw [Lib.cell_of_heap hzz]; rfl
  have f0 := Lib.frozen_of_heap hzz 0
  have f1 := Lib.frozen_of_heap hzz 1
  have f2 := Lib.frozen_of_heap hzz 2
  have hend := fun x y z => stat_end (x := x) (y := y) (z := z) hB2 hzz
  clear hzz
  have c0 : w2.cell? ⟨b, 0, none⟩ = some (.bool true) := hn.c0
  have c1 : w2.cell? ⟨b, 1, none⟩ = some (.int .i64 0) := hn.c1
  go_wp2
  refine bodyPost_ret (res27 _ _ _ _ _ _ rfl (hend _ _ _).1) rfl ?_
  exact ⟨rfl, (hend _ _ _).2⟩
 | is e =>
  rw [hl] at q2
  simp only [Lk.map]
  obtain ⟨k, hm⟩ := lookV_mem hl
  have hn : NodeAt w e := hF.nodes _ hm
  obtain ⟨da, dc, hdv⟩ := (hO.dat _ hm).len
  simp only at hdv
  cases hd : e.nd.dir with
  | true =>
   simp only [if_true]
   go_enter Tryz.func63, Tryz.ntmps63
   go_wp2_with fail
   refine (orEmpty_some A _).mono ?_
   rintro r w0 ⟨rfl, rfl⟩
   go_wp2_with fail
   refine (q1 _).mono ?_
   rintro r w1 ⟨rfl, hb1⟩
   have hB1 : Below w.heap.size w w1 := Hb0.out.trans (hb1.mono (by simp))
   go_wp2_with fail
   refine (q2 w1 hB1).mono ?_
   rintro r w2 ⟨rfl, hb2⟩
   have hB2 : Below w.heap.size w w2 := hB1.trans (hb2.mono hB1.size)
   rw [hsz] at hb1
   have hzz := HZ.out w2 (hb1.trans (hb2.mono (by have := hb1.size; rw [hsz] at this; exact this)))
   have z0 : w2.cell? ⟨w.heap.size, 0, none⟩ = some (.int .i64 0) := by rw [Lib.cell_of_heap hzz]; rfl
   have z1 : w2.cell? ⟨w.heap.size, 1, none⟩ = some (.int .i64 0) := by rw [Lib.cell_of_heap hzz]; rfl
   have z2 : w2.cell? ⟨w.heap.size, 2, none⟩ = some (.int .i64 0) := by rw [Lib.cell_of_heap hzz]; rfl
   have f0 := Lib.frozen_of_heap hzz 0
   have f1 := Lib.frozen_of_heap hzz 1
   have f2 := Lib.frozen_of_heap hzz 2
   have hend := fun x y z => stat_end (x := x) (y := y) (z := z) hB2 hzz
   clear hzz
   have hn2 := hn.below hB2
   have c0 := hn2.c0
   have c1 := hn2.c1
   have c2 := hn2.c2
   rw [hd] at c0
   rw [hdv] at c2
   clear hn2
   go_wp2
   refine bodyPost_ret (res27 _ _ _ _ _ _ rfl (hend _ _ _).1) rfl ?_
   exact ⟨rfl, (hend _ _ _).2⟩
  | false =>
   simp only [Bool.false_eq_true, if_false]
   go_enter Tryz.func63, Tryz.ntmps63
   go_wp2_with fail
   refine (orEmpty_some A _).mono ?_
   rintro r w0 ⟨rfl, rfl⟩
   go_wp2_with fail
   refine (q1 _).mono ?_
   rintro r w1 ⟨rfl, hb1⟩
   have hB1 : Below w.heap.size w w1 := Hb0.out.trans (hb1.mono (by simp))
   go_wp2_with fail
   refine (q2 w1 hB1).mono ?_
   rintro r w2 ⟨rfl, hb2⟩
   have hB2 : Below w.heap.size w w2 := hB1.trans (hb2.mono hB1.size)
   rw [hsz] at hb1
   have hzz := HZ.out w2 (hb1.trans (hb2.mono (by have := hb1.size; rw [hsz] at this; exact this)))
   have z0 : w2.cell? ⟨w.heap.size, 0, none⟩ = some (.int .i64 0) := by rw [Lib.cell_of_heap hzz]; rfl
   have z1 : w2.cell? ⟨w.heap.size, 1, none⟩ = some (.int .i64 0) := by rw [Lib.cell_of_heap hzz]; rfl
   have z2 : w2.cell? ⟨w.heap.size, 2, none⟩ = some (.int .i64 0) := by rw [Lib.cell_of_heap hzz]; rfl
   have f0 := Lib.frozen_of_heap hzz 0
   have f1 := Lib.frozen_of_heap hzz 1
   have f2 := Lib.frozen_of_heap hzz 2
   have hend := fun x y z => stat_end (x := x) (y := y) (z := z) hB2 hzz
   clear hzz
   have hn2 := hn.below hB2
   have c0 := hn2.c0
   have c1 := hn2.c1
   have c2 := hn2.c2
   rw [hd] at c0
   rw [hdv] at c2
   clear hn2
   have hze : e.blk ≠ w.heap.size := by have := hn.lt; omega
   go_wp2
   go_region
   all_goals go_wp2
   all_goals
    refine bodyPost_ret (res27 _ _ _ _ _ (World.drew _) rfl (hend _ _ _).1) rfl ?_
    exact ⟨rfl, (hend _ _ _).2.drew⟩
end Go.Proofs.YtabmnkddmdffkaaGreatDoor
