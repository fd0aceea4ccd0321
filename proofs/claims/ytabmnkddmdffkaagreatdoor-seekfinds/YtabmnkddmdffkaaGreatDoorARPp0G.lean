import Derived.Test.YtabmnkddmdffkaaGreatDoorARCp
import Derived.Test.YtabmnkddmdffkaaGreatDoorARBigG
import Derived.Lib.SlBytesConst
import Derived.Test.YtabmnkddmdffkaaGreatDoorARFloat2
import Derived.Deep.AppendLies
import Derived.Test.YtabmnkddmdffkaaGreatDoorARWrite
import Derived.Test.YtabmnkddmdffkaaGreatDoorARCvt
namespace Go.Proofs.YtabmnkddmdffkaaGreatDoor.Arc
open Go.RowKit Go.Maps Go.Shelf
def Mx (w : World) : Prop := ∃ m, w.cell? ⟨4, 0, none⟩ = some (.int .i64 m)
theorem Mx.below {w w' : World} {B : Nat} (h : Mx w) (hb : Below B w w') (hB : 4 < B) : Mx w' := by
 obtain ⟨m, hm⟩ := h
 exact ⟨m, (hb.cell (p := ⟨4, 0, none⟩) hB).trans hm⟩
def Tbs (w : World) (v : Value) (t : Bs) : Prop := (v = .slice none 0 0 ∧ t = []) ∨ Bsl w v t
theorem Bsl.below {w w' : World} {v : Value} {t : Bs} (h : Bsl w v t) (hb : Below w.heap.size w w') : Bsl w' v t := by
 obtain ⟨a, n, cap, h1, h2, h3, h4⟩ := h
 exact ⟨a, n, cap, h1, h2, h3, h4.below hb⟩
theorem Tbs.below {w w' : World} {v : Value} {t : Bs} (h : Tbs w v t) (hb : Below w.heap.size w w') : Tbs w' v t := by
 rcases h with h | h
 ·exact .inl h
 ·exact .inr (h.below hb)
def nums (b : Bs) : List Int := b.map fun x => (x.toNat : Int)
theorem bytesOf_nums (b : Bs) : Lib.bytesOf (nums b) = b := by
 unfold Lib.bytesOf nums
 rw [List.map_map]
 conv => rhs; rw [← List.map_id b]
 apply List.map_congr_left
 intro x _
 simp
theorem bytesIn_of {w : World} {a : Addr} {n cap : Nat} {bs : Bs} (h : Rds w (.slice (some a) n cap) bs) (hn : n = bs.length) : Lib.BytesIn w (some a) n (nums bs) := by
 rcases h with ⟨e, _⟩ | ⟨a', c, e, _, hc⟩
 ·cases e
 ·cases e
  refine Lib.BytesIn.of_cells fun i hi => hc i _ ?_
  unfold Lib.byteCells nums
  rw [List.getElem?_map, List.getElem?_eq_getElem (by omega), List.getD_eq_getElem?_getD, List.getElem?_map, List.getElem?_eq_getElem (by omega)]
  rfl
theorem nums_range (b : Bs) : ∀ x ∈ nums b, 0 ≤ x ∧ x < 256 := by
 intro x hx
 unfold nums at hx
 obtain ⟨y, _, rfl⟩ := List.mem_map.1 hx
 have := y.toNat_lt
 exact ⟨by omega, by omega⟩
theorem nums_len (b : Bs) : (nums b).length = b.length := by unfold nums; simp
def NmR (c t : Bs) (r : Ending) : Prop := match nameP c t with
 | some nm => r = .returned (.tuple #[.string (mk nm), .bool true])
 | none => ∃ s, r = .returned (.tuple #[.string s, .bool false])
abbrev pcCells (c0 c1 c2 c3 c4 c5 : Bs) (dv : Value) : Array Value := #[.string (mk c0), .string (mk c1), .string (mk c2), .string (mk c3), .string (mk c4), .string (mk c5), dv]
theorem nameP_short (c t : Bs) (hp : Lib.hasPrefix c [47] = false) : nameP c t = if Lib.hasSuffix c [47] = true then some (c.take (c.length - 1)) else none := by
 unfold nameP
 rw [if_neg (by rw [hp]; decide)]
set_option maxRecDepth 100000 in
set_option maxHeartbeats 2000000 in
theorem name_sh (c0 c1 c2 c3 c4 c5 : Bs) (tv : Value) (t : Bs) (w : World) (da : Option Addr) (dn dc : Nat) (hl : c0.length ≤ 16) (hp : Lib.hasPrefix c0 [47] = false) :
  Calls Tryz.prog 168 #[pcv c0 c1 c2 c3 c4 c5 (.slice da dn dc), tv] w fun r w' => Below w.heap.size w w' ∧ NmR c0 t r := by
 have q1 := fun w => Tryz.strings_CutPrefix (mk c0) ⟨#[47]⟩ w
 have q2 := fun w => Tryz.strings_CutSuffix (mk c0) ⟨#[47]⟩ w (by rw [mk_size]; omega)
 have e1 : Lib.trimPrefix c0 [47] = c0 := by unfold Lib.trimPrefix; rw [hp]; rfl
 have e2 : ∀ b, Lib.hasSuffix c0 [47] = b → Lib.trimSuffix c0 [47] = if b then c0.take (c0.length - 1) else c0 := fun b h => by unfold Lib.trimSuffix; rw [h]; rfl
 have hn := nameP_short c0 t hp
 have hbW : Below w.heap.size w (w.alloc (.cells (pcCells c0 c1 c2 c3 c4 c5 (.slice da dn dc)) 221)) := (Below.refl _ _).alloc (Nat.le_refl _) _
 dsimp only [mk] at q1 q2
 rw [e1, hp] at q1
 cases hs : Lib.hasSuffix c0 [47] with
 | true =>
  rw [hs, if_pos rfl] at hn
  rw [hs, e2 true hs, if_pos rfl] at q2
  have HN := hide' hn
  clear hn e1 e2 hs hp
  go_enter Tryz.func168, Tryz.ntmps168
  go_wp2_with fail
  refine (q1 _).mono ?_
  rintro e w' ⟨rfl, he⟩
  subst he
  go_wp2_with fail
  refine (q2 _).mono ?_
  rintro e w' ⟨rfl, he⟩
  subst he
  go_wp2_with fail
  go_ret2
  refine ⟨hbW, ?_⟩
  unfold NmR
  rw [HN.out]
  rfl
 | false =>
  rw [hs, if_neg (by decide)] at hn
  rw [hs, e2 false hs, if_neg (by decide)] at q2
  have HN := hide' hn
  clear hn e1 e2 hs hp
  go_enter Tryz.func168, Tryz.ntmps168
  go_wp2_with fail
  refine (q1 _).mono ?_
  rintro e w' ⟨rfl, he⟩
  subst he
  go_wp2_with fail
  refine (q2 _).mono ?_
  rintro e w' ⟨rfl, he⟩
  subst he
  go_wp2_with fail
  go_ret2
  refine ⟨hbW, ?_⟩
  unfold NmR
  rw [HN.out]
  exact ⟨_, rfl⟩
theorem nameP_long (c t : Bs) (hp : Lib.hasPrefix c [47] = true) : (valP (c.drop 1) = none → nameP c t = none) ∧ ∀ k, valP (c.drop 1) = some k → (¬ k ≤ t.length → nameP c t = none) ∧ (k ≤ t.length → nameP c t = if 0 ≤ Lib.index (t.drop k) [47, 10] then some ((t.drop k).take (Lib.index (t.drop k) [47, 10]).toNat) else none) := by
 refine ⟨fun h => ?_, fun k h => ⟨fun h2 => ?_, fun h2 => ?_⟩⟩
 ·unfold nameP; rw [if_pos hp, h]
 ·unfold nameP; rw [if_pos hp, h]; dsimp only; rw [if_neg h2]
 ·unfold nameP; rw [if_pos hp, h]; dsimp only; rw [if_pos h2]
  unfold Lib.cut
  split
  ·rfl
  ·rfl
set_option maxRecDepth 100000 in
set_option maxHeartbeats 2000000 in
theorem name_lg (c0 c1 c2 c3 c4 c5 : Bs) (p1 : Option Addr) (n c : Nat) (t : Bs) (w : World) (da : Option Addr) (dn dc : Nat) (hl : c0.length ≤ 16) (hp : Lib.hasPrefix c0 [47] = true) (hE : EvS w) (h3 : 9 < w.heap.size) (hn : n = t.length) (hnn : n ≤ 100000) (hT : Tbs w (.slice p1 n c) t) (hnc : n ≤ c) (hM : Mx w) :
  Calls Tryz.prog 168 #[pcv c0 c1 c2 c3 c4 c5 (.slice da dn dc), .slice p1 n c] w fun r w' => Below w.heap.size w w' ∧ NmR c0 t r := by
 have q1 := fun w => Tryz.strings_CutPrefix (mk c0) ⟨#[47]⟩ w
 have e1 : Lib.trimPrefix c0 [47] = c0.drop 1 := by unfold Lib.trimPrefix; rw [hp]; rfl
 have hnm := nameP_long c0 t hp
 have hbW : Below w.heap.size w (w.alloc (.cells (pcCells c0 c1 c2 c3 c4 c5 (.slice da dn dc)) 221)) := (Below.refl _ _).alloc (Nat.le_refl _) _
 dsimp only [mk] at q1
 rw [e1, hp] at q1
 have qv := value_any (mk (c0.drop 1)) _ (by rw [mk_size, List.length_drop]; omega) (hE.below hbW (by omega)) (Nat.lt_of_lt_of_le h3 hbW.size)
 rw [tl_mk (c0.drop 1)] at qv
 generalize c0.drop 1 = pl at q1 qv hnm
 have HNM := hide' hnm
 have HNN := hide' hn
 clear hnm e1 hp hn
 go_enter Tryz.func168, Tryz.ntmps168
 go_wp2_with fail
 refine (q1 _).mono ?_
 rintro e w' ⟨rfl, he⟩
 subst he
 go_wp2_with fail
 refine qv.mono ?_
 rintro r w2 ⟨hb2, ⟨k, hv, rfl⟩ | ⟨hv, rfl⟩⟩
 ·have HV := hide' hv
  have hB2 := hbW.trans (hb2.mono hbW.size)
  have HB := hide' hB2
  clear hv hb2 qv q1
  by_cases hk : k ≤ n
  ·have g1 : ¬ (n : Int) < (k : Int) := by omega
   have g2 : (k : Int) ≤ (n : Int) := by omega
   have hcv := Lib.run_convert_bytes_const (P := Tryz.prog) w2 57 5 #[.int .u8 47, .int .u8 10] 2 2 Tryz.underlying57 Tryz.underlying5
   have hk' : k ≤ t.length := by rw [← HNN.out]; exact hk
   have hnm2 := (HNM.out.2 k HV.out).2 hk'
   have HN2 := hide' hnm2
   have HT := hide' hT
   clear hnm2 hT HNM hE hbW
   obtain ⟨W3, hW3⟩ : ∃ W, W = w2.alloc (.cells #[.int .u8 47, .int .u8 10] 5 (2, 3)) := ⟨_, rfl⟩
   have hb3 : Below w2.heap.size w2 W3 := by rw [hW3]; exact (Below.refl _ _).alloc (Nat.le_refl _) _
   have hB3 := hB2.trans (hb3.mono hB2.size)
   have hs3 : W3.heap[w2.heap.size]? = some (.cells #[.int .u8 47, .int .u8 10] 5 (2, 3)) := by rw [hW3]; exact heap_alloc_new w2 _
   have hsep : Lib.BytesIn W3 (some ⟨w2.heap.size, 0, none⟩) 2 (nums [47, 10]) := Lib.BytesIn.of_cells fun i hi => by
    rw [Addr.add_lit, Nat.zero_add, Lib.cell_of_heap hs3]
    match i, hi with
    | 0, _ => rfl
    | 1, _ => rfl
   obtain ⟨mx, hmx⟩ := hM.below hB3 (by omega)
   have HW3 := hide' hW3
   clear hW3 hs3 hb3 hB2
   by_cases hck : c = k
   ·have hz : n - k = 0 := by omega
    have hd : t.drop k = [] := List.drop_eq_nil_of_le (by rw [← HNN.out]; omega)
    have hidx : Lib.index (t.drop k) [47, 10] = -1 := by rw [hd]; rfl
    have qc := Tryz.bytes_Cut_all p1 (some ⟨w2.heap.size, 0, none⟩) 0 0 2 2 [] (nums [47, 10]) mx W3 rfl rfl (by simp) (nums_range _) (Lib.BytesIn.nil _ _ _) hsep (fun _ => rfl) (Nat.le_refl _) (by decide) (by decide) hmx
    rw [bytesOf_nums] at qc
    have hi2 : Lib.index (Lib.bytesOf []) [47, 10] = -1 := rfl
    rw [hi2] at qc
    have hcv0 : Lib.cutV p1 0 0 2 (-1) = .tuple #[.slice p1 0 0, .slice none 0 0, .bool false] := rfl
    rw [hcv0] at qc
    have hst : ∀ q, (convert 57 9 (.slice p1 0 0)).run Tryz.prog (W3.drewN q) = .ok (.string (mk [])) (W3.drewN q) := fun q => rds_str (by
     cases p1 with
     | none => exact .inl ⟨rfl, rfl⟩
     | some a => exact rds_empty _ _ _)
    rw [hidx, if_neg (by decide)] at HN2
    clear hd hidx hi2 hcv0 hmx hsep HT hk hk' hnc hnn
    go_wp2_with fail
    rw [← HW3.out]
    refine qc.mono ?_
    rintro r w4 ⟨rfl, q, rfl⟩
    have hst := hst q
    clear qc
    go_wp2_with fail
    go_ret2
    refine ⟨hB3.trans (below_drewn _), ?_⟩
    unfold NmR
    rw [HN2.out]
    exact ⟨_, rfl⟩
   ·obtain ⟨a, rfl⟩ : ∃ a, p1 = some a := by
     rcases HT.out with ⟨e, _⟩ | ⟨a, n', c', e, _⟩
     ·cases e; omega
     ·cases e; exact ⟨_, rfl⟩
    have hR : Rds w (.slice (some a) n c) t := by
     rcases HT.out with ⟨e, _⟩ | ⟨a, n', c', e, _, _, hr⟩
     ·cases e
     ·exact hr
    have hR3 := hR.below hB3
    have hRk := fun m c' (h : k + m ≤ n) => rds_part hR3 HNN.out k m c' h
    have hRw := hRk (n - k) (c - k) (by omega)
    rw [List.take_of_length_le (by rw [List.length_drop, ← HNN.out]; exact Nat.le_refl _)] at hRw
    have qc := Tryz.bytes_Cut_all (some (a.add k)) (some ⟨w2.heap.size, 0, none⟩) (n - k) (c - k) 2 2 (nums (t.drop k)) (nums [47, 10]) mx W3 (by rw [nums_len, List.length_drop, ← HNN.out]) rfl (nums_range _) (nums_range _) (bytesIn_of hRw (by rw [List.length_drop, ← HNN.out])) hsep (fun h => by cases h) (by omega) (by omega) (by decide) hmx
    rw [bytesOf_nums, bytesOf_nums] at qc
    have hroom := Lib.index_room (t.drop k) [47, 10]
    rw [List.length_drop, ← HNN.out] at hroom
    generalize Lib.index (t.drop k) [47, 10] = ix at qc HN2 hroom
    by_cases hix : 0 ≤ ix
    ·obtain ⟨iN, rfl⟩ : ∃ i : Nat, ix = i := ⟨ix.toNat, by omega⟩
     have hroom := hroom hix
     have hcv1 : Lib.cutV (some (a.add k)) (n - k) (c - k) 2 (iN : Int) = .tuple #[.slice (some (a.add k)) iN (c - k), Lib.fromV (some (a.add k)) (n - k) (c - k) (iN + 2), .bool true] := by
      unfold Lib.cutV; rw [if_pos hix]; rfl
     rw [hcv1] at qc
     have hR4 := hRk iN (c - k) (by simp only [List.length_cons, List.length_nil] at hroom; omega)
     have hst : ∀ q, (convert 57 9 (.slice (some (a.add k)) iN (c - k))).run Tryz.prog (W3.drewN q) = .ok (.string (mk ((t.drop k).take iN))) (W3.drewN q) := fun q => rds_str (hR4.below (below_drewn _))
     rw [if_pos hix] at HN2
     generalize Lib.fromV (some (a.add k)) (n - k) (c - k) (iN + 2) = fv at qc
     clear hroom hcv1 hmx hsep HT hk hk' hnc hnn hR hR3 hRk hRw hR4 HNN
     go_wp2_with fail
     rw [← HW3.out]
     refine qc.mono ?_
     rintro r w4 ⟨rfl, q, rfl⟩
     have hst := hst q
     clear qc
     go_wp2_with fail
     go_ret2
     refine ⟨hB3.trans (below_drewn _), ?_⟩
     unfold NmR
     rw [HN2.out]
     rfl
    ·have hcv1 : Lib.cutV (some (a.add k)) (n - k) (c - k) 2 ix = .tuple #[.slice (some (a.add k)) (n - k) (c - k), .slice none 0 0, .bool false] := by
      unfold Lib.cutV; rw [if_neg hix]
     rw [hcv1] at qc
     have hst : ∀ q, (convert 57 9 (.slice (some (a.add k)) (n - k) (c - k))).run Tryz.prog (W3.drewN q) = .ok (.string (mk (t.drop k))) (W3.drewN q) := fun q => rds_str (hRw.below (below_drewn _))
     rw [if_neg hix] at HN2
     clear hroom hcv1 hmx hsep HT hk hk' hnc hnn hR hR3 hRk hRw HNN
     go_wp2_with fail
     rw [← HW3.out]
     refine qc.mono ?_
     rintro r w4 ⟨rfl, q, rfl⟩
     have hst := hst q
     clear qc
     go_wp2_with fail
     go_ret2
     refine ⟨hB3.trans (below_drewn _), ?_⟩
     unfold NmR
     rw [HN2.out]
     exact ⟨_, rfl⟩
  ·have g1 : (n : Int) < (k : Int) := by omega
   go_wp2_with fail
   go_ret2
   refine ⟨HB.out, ?_⟩
   unfold NmR
   rw [(HNM.out.2 k HV.out).1 (by rw [← HNN.out]; exact hk)]
   exact ⟨_, rfl⟩
 ·have HV := hide' hv
  have HB := hide' (hbW.trans (hb2.mono hbW.size))
  clear hv hb2 qv q1
  go_wp2_with fail
  go_ret2
  refine ⟨HB.out, ?_⟩
  unfold NmR
  rw [HNM.out.1 HV.out]
  exact ⟨_, rfl⟩
end Go.Proofs.YtabmnkddmdffkaaGreatDoor.Arc
namespace Go.Proofs.YtabmnkddmdffkaaGreatDoor.Arc
open Go.RowKit Go.Maps Go.Shelf
theorem pname_any (c0 c1 c2 c3 c4 c5 : Bs) (tv : Value) (t : Bs) (w : World) (da : Option Addr) (dn dc : Nat) (hl : c0.length ≤ 16) (hE : EvS w) (h3 : 9 < w.heap.size) (hnn : t.length ≤ 100000) (hT : Tbs w tv t) (hM : Mx w) :
  Calls Tryz.prog 168 #[pcv c0 c1 c2 c3 c4 c5 (.slice da dn dc), tv] w fun r w' => Below w.heap.size w w' ∧ NmR c0 t r := by
 cases hp : Lib.hasPrefix c0 [47] with
 | false => exact name_sh c0 c1 c2 c3 c4 c5 tv t w da dn dc hl hp
 | true =>
  rcases hT with ⟨rfl, rfl⟩ | ⟨a, n, cap, rfl, hn, hc, hr⟩
  ·exact name_lg c0 c1 c2 c3 c4 c5 none 0 0 [] w da dn dc hl hp hE h3 rfl (by omega) (.inl ⟨rfl, rfl⟩) (Nat.le_refl _) hM
  ·exact name_lg c0 c1 c2 c3 c4 c5 (some a) n cap t w da dn dc hl hp hE h3 hn (by omega) (.inr ⟨a, n, cap, rfl, hn, hc, hr⟩) hc hM
def MbR (c0 c1 t x : Bs) (B : Nat) (w' : World) (r : Ending) : Prop := match nameP c0 t, valP c1 with
 | some nm, some v => ∃ dv, r = .returned (.tuple #[.agg #[.string (mk nm), .int .i64 (v : Nat), dv], .bool true]) ∧ Dat w' dv x ∧ OwnB B dv
 | _, _ => r = .returned (.tuple #[.agg #[.string ⟨#[]⟩, .int .i64 0, .slice none 0 0], .bool false])
theorem mb_none1 {c0 c1 t x : Bs} {B : Nat} {w' : World} {r : Ending} (h : nameP c0 t = none) (hr : r = .returned (.tuple #[.agg #[.string ⟨#[]⟩, .int .i64 0, .slice none 0 0], .bool false])) : MbR c0 c1 t x B w' r := by
 unfold MbR; rw [h]; exact hr
theorem mb_none2 {c0 c1 t x : Bs} {B : Nat} {w' : World} {r : Ending} (h : valP c1 = none) (hr : r = .returned (.tuple #[.agg #[.string ⟨#[]⟩, .int .i64 0, .slice none 0 0], .bool false])) : MbR c0 c1 t x B w' r := by
 unfold MbR; rw [h]
 cases nameP c0 t <;> exact hr
theorem mb_some {c0 c1 t x nm : Bs} {v B : Nat} {w' : World} {r : Ending} (h : nameP c0 t = some nm) (h2 : valP c1 = some v) (hr : ∃ dv, r = .returned (.tuple #[.agg #[.string (mk nm), .int .i64 (v : Nat), dv], .bool true]) ∧ Dat w' dv x ∧ OwnB B dv) : MbR c0 c1 t x B w' r := by
 unfold MbR; rw [h, h2]; exact hr
theorem three_set {W : World} {P : Nat} {a b c : Value} (h : W.heap[P]? = some (.cells #[a, b, c] 86 (0, 0))) (x y z : Value) : (((W.setCell ⟨P, 0, none⟩ x).setCell ⟨P, 1, none⟩ y).setCell ⟨P, 2, none⟩ z).heap[P]? = some (.cells #[x, y, z] 86 (0, 0)) := by
 have one : ∀ (W : World) (cs : Array Value) (k : Nat) (v : Value), W.heap[P]? = some (.cells cs 86 (0, 0)) → (W.setCell ⟨P, k, none⟩ v).heap[P]? = some (.cells (cs.setIfInBounds k v) 86 (0, 0)) := by
  intro W cs k v h
  have hlt := lt_of_block h
  have h' : W.heap[P] = .cells cs 86 (0, 0) := by simpa [Array.getElem?_eq_getElem hlt] using h
  show (W.heap.modify P _)[P]? = _
  rw [Array.getElem?_eq_getElem (by simpa using hlt), Array.getElem_modify_self, h']
  rfl
 have h1 := one W _ 0 x h
 have h2 := one _ _ 1 y h1
 have h3 := one _ _ 2 z h2
 simpa using h3
theorem below_three {w W : World} {P : Nat} (h : Below w.heap.size w W) (hP : w.heap.size ≤ P) (x y z : Value) : Below w.heap.size w (((W.setCell ⟨P, 0, none⟩ x).setCell ⟨P, 1, none⟩ y).setCell ⟨P, 2, none⟩ z) :=
 below_one (below_one (below_one h hP 0 x) hP 1 y) hP 2 z
theorem three_other {W : World} {P g : Nat} (hg : g ≠ P) (x y z : Value) : (((W.setCell ⟨P, 0, none⟩ x).setCell ⟨P, 1, none⟩ y).setCell ⟨P, 2, none⟩ z).heap[g]? = W.heap[g]? := by
 have one : ∀ (W : World) (k : Nat) (v : Value), (W.setCell ⟨P, k, none⟩ v).heap[g]? = W.heap[g]? := by
  intro W k v
  show (W.heap.modify P _)[g]? = _
  rw [Array.getElem?_modify]
  rw [if_neg (fun e => hg e.symm)]
 rw [one, one, one]
theorem cutl (s p : Bs) : (Lib.cut s p).1.length ≤ s.length := by
 unfold Lib.cut
 split
 ·exact List.length_take_le' _ _
 ·exact Nat.le_refl _
theorem nameP_len {c t nm : Bs} (h : nameP c t = some nm) : nm.length ≤ c.length + t.length := by
 unfold nameP at h
 split at h
 ·cases hv : valP (c.drop 1) with
  | none => rw [hv] at h; cases h
  | some k =>
   rw [hv] at h
   dsimp only at h
   split at h
   ·split at h
    ·have e := Option.some.inj h
     subst e
     have := cutl (t.drop k) [47, 10]
     have := List.length_drop (i := k) (l := t)
     omega
    ·cases h
   ·cases h
 ·split at h
  ·have e := Option.some.inj h
   subst e
   have := List.length_take_le (c.length - 1) c
   omega
  ·cases h
set_option maxRecDepth 100000 in
set_option maxHeartbeats 2000000 in
theorem member_any (c0 c1 c2 c3 c4 c5 : Bs) (dv tv : Value) (x t : Bs) (w : World) (hd : Bsl w dv x) (hl : c0.length ≤ 16) (hl1 : c1.length ≤ 16) (hE : EvS w) (h3 : 9 < w.heap.size) (hnn : t.length ≤ 100000) (hxn : x.length ≤ 100000) (hT : Tbs w tv t) (hM : Mx w) :
  Calls Tryz.prog 144 #[pcv c0 c1 c2 c3 c4 c5 dv, tv] w fun r w' => Below w.heap.size w w' ∧ MbR c0 c1 t x w.heap.size w' r := by
 obtain ⟨da, dn, dc, rfl, hdn, hdc, hdr⟩ := hd
 have HDN := hide' hdn
 clear hdn
 obtain ⟨W1, hW1⟩ : ∃ W, W = (w.alloc (.cells (pcCells c0 c1 c2 c3 c4 c5 (.slice (some da) dn dc)) 221)).alloc (.cells #[.string ⟨#[]⟩, .int .i64 0, .slice none 0 0] 86) := ⟨_, rfl⟩
 have hb1 : Below w.heap.size w W1 := by rw [hW1]; exact ((Below.refl _ _).alloc (Nat.le_refl _) _).alloc (by simp) _
 have hz1 : W1.heap.size = w.heap.size + 2 := by rw [hW1]; simp
 have p1 : W1.heap[w.heap.size]? = some (.cells (pcCells c0 c1 c2 c3 c4 c5 (.slice (some da) dn dc)) 221 (0, 0)) := by
  rw [hW1]; exact (Lib.alloc_old _ _ _ (by simp)).trans (heap_alloc_new w _)
 have p2 : W1.heap[w.heap.size + 1]? = some (.cells #[.string ⟨#[]⟩, .int .i64 0, .slice none 0 0] 86 (0, 0)) := by
  rw [hW1]
  have := heap_alloc_new (w.alloc (.cells (pcCells c0 c1 c2 c3 c4 c5 (.slice (some da) dn dc)) 221)) (.cells #[.string ⟨#[]⟩, .int .i64 0, .slice none 0 0] 86)
  simpa using this
 have hE1 := hE.below hb1 (by omega)
 have hM1 := hM.below hb1 (by omega)
 have hT1 := hT.below hb1
 have qn := pname_any c0 c1 c2 c3 c4 c5 tv t W1 (some da) dn dc hl hE1 (by omega) hnn hT1 hM1
 have HW1 := hide' hW1
 have H1 := hide' (And.intro hb1 (And.intro p1 (And.intro p2 (And.intro hE1 hdr))))
 clear hW1 hb1 p1 p2 hE1 hM1 hT1 hE hM hT hdr
 go_enter Tryz.func144, Tryz.ntmps144
 go_wp2_with fail
 rw [← HW1.out]
 refine qn.mono ?_
 rintro r w2 ⟨hb2, hnm⟩
 clear qn
 unfold NmR at hnm
 cases hN : nameP c0 t with
 | none =>
  rw [hN] at hnm
  obtain ⟨s, rfl⟩ := hnm
  have HN := hide' hN
  clear hN
  have q2 := (hb2.block w.heap.size (by omega)).trans H1.out.2.1
  have q3 := (hb2.block (w.heap.size + 1) (by omega)).trans H1.out.2.2.1
  have k1 : w2.cell? ⟨w.heap.size, 1, none⟩ = some (.string (mk c1)) := by rw [Lib.cell_of_heap q2]; rfl
  have hE2 := H1.out.2.2.2.1.below hb2 (by omega)
  have hs2 := hb2.size
  have qv := value_any (mk c1) w2 (by rw [mk_size]; exact hl1) hE2 (by omega)
  rw [tl_mk c1] at qv
  go_wp2_with fail
  refine qv.mono ?_
  rintro r w3 ⟨hb3, hv⟩
  have hs3 := hb3.size
  have r2 := (hb3.block w.heap.size (by omega)).trans q2
  have r3 := (hb3.block (w.heap.size + 1) (by omega)).trans q3
  have HP2 := hide' r3
  have HB3 := hide' ((H1.out.1.trans (hb2.mono (by omega))).trans (hb3.mono (by omega)))
  have m0 : w3.cell? ⟨w.heap.size + 1, 0, none⟩ = some (.string ⟨#[]⟩) := by rw [Lib.cell_of_heap r3]; rfl
  have m1 : w3.cell? ⟨w.heap.size + 1, 1, none⟩ = some (.int .i64 0) := by rw [Lib.cell_of_heap r3]; rfl
  have m2 : w3.cell? ⟨w.heap.size + 1, 2, none⟩ = some (.slice none 0 0) := by rw [Lib.cell_of_heap r3]; rfl
  have z0 := Lib.frozen_of_heap r3 0
  have z1 := Lib.frozen_of_heap r3 1
  have z2 := Lib.frozen_of_heap r3 2
  have d6 : w3.cell? ⟨w.heap.size, 6, none⟩ = some (.slice (some da) dn dc) := by rw [Lib.cell_of_heap r2]; rfl
  clear qv q2 q3 r3 k1 hE2
  rcases hv with ⟨v, hv, rfl⟩ | ⟨hv, rfl⟩
  ·have HV := hide' hv
   clear hv
   go_wp2_with fail
   have hX := three_set HP2.out (.string ⟨#[]⟩) (.int .i64 0) (.slice none 0 0)
   have hBX := below_three (P := w.heap.size + 1) HB3.out (by omega) (.string ⟨#[]⟩) (.int .i64 0) (.slice none 0 0)
   revert hX hBX
   generalize (((w3.setCell ⟨w.heap.size + 1, 0, none⟩ (.string ⟨#[]⟩)).setCell ⟨w.heap.size + 1, 1, none⟩ (.int .i64 0)).setCell ⟨w.heap.size + 1, 2, none⟩ (.slice none 0 0)) = X
   intro hX hBX
   have x0 : X.cell? ⟨w.heap.size + 1, 0, none⟩ = some (.string ⟨#[]⟩) := by rw [Lib.cell_of_heap hX]; rfl
   have x1 : X.cell? ⟨w.heap.size + 1, 1, none⟩ = some (.int .i64 0) := by rw [Lib.cell_of_heap hX]; rfl
   have x2 : X.cell? ⟨w.heap.size + 1, 2, none⟩ = some (.slice none 0 0) := by rw [Lib.cell_of_heap hX]; rfl
   refine bodyPost_ret (by simp [results, Tryz.results144, go_sem, x0, x1, x2]; rfl) rfl ?_
   exact ⟨hBX, mb_none1 HN.out rfl⟩
  ·have HV := hide' hv
   clear hv
   go_wp2_with fail
   have hX := three_set HP2.out (.string ⟨#[]⟩) (.int .i64 0) (.slice none 0 0)
   have hBX := below_three (P := w.heap.size + 1) HB3.out (by omega) (.string ⟨#[]⟩) (.int .i64 0) (.slice none 0 0)
   revert hX hBX
   generalize (((w3.setCell ⟨w.heap.size + 1, 0, none⟩ (.string ⟨#[]⟩)).setCell ⟨w.heap.size + 1, 1, none⟩ (.int .i64 0)).setCell ⟨w.heap.size + 1, 2, none⟩ (.slice none 0 0)) = X
   intro hX hBX
   have x0 : X.cell? ⟨w.heap.size + 1, 0, none⟩ = some (.string ⟨#[]⟩) := by rw [Lib.cell_of_heap hX]; rfl
   have x1 : X.cell? ⟨w.heap.size + 1, 1, none⟩ = some (.int .i64 0) := by rw [Lib.cell_of_heap hX]; rfl
   have x2 : X.cell? ⟨w.heap.size + 1, 2, none⟩ = some (.slice none 0 0) := by rw [Lib.cell_of_heap hX]; rfl
   refine bodyPost_ret (by simp [results, Tryz.results144, go_sem, x0, x1, x2]; rfl) rfl ?_
   exact ⟨hBX, mb_none1 HN.out rfl⟩
 | some nm =>
  rw [hN] at hnm
  subst hnm
  have HN := hide' hN
  clear hN
  have q2 := (hb2.block w.heap.size (by omega)).trans H1.out.2.1
  have q3 := (hb2.block (w.heap.size + 1) (by omega)).trans H1.out.2.2.1
  have k1 : w2.cell? ⟨w.heap.size, 1, none⟩ = some (.string (mk c1)) := by rw [Lib.cell_of_heap q2]; rfl
  have hE2 := H1.out.2.2.2.1.below hb2 (by omega)
  have hs2 := hb2.size
  have qv := value_any (mk c1) w2 (by rw [mk_size]; exact hl1) hE2 (by omega)
  rw [tl_mk c1] at qv
  go_wp2_with fail
  refine qv.mono ?_
  rintro r w3 ⟨hb3, hv⟩
  have hs3 := hb3.size
  have r2 := (hb3.block w.heap.size (by omega)).trans q2
  have r3 := (hb3.block (w.heap.size + 1) (by omega)).trans q3
  have HP2 := hide' r3
  have HB3 := hide' ((H1.out.1.trans (hb2.mono (by omega))).trans (hb3.mono (by omega)))
  have m0 : w3.cell? ⟨w.heap.size + 1, 0, none⟩ = some (.string ⟨#[]⟩) := by rw [Lib.cell_of_heap r3]; rfl
  have m1 : w3.cell? ⟨w.heap.size + 1, 1, none⟩ = some (.int .i64 0) := by rw [Lib.cell_of_heap r3]; rfl
  have m2 : w3.cell? ⟨w.heap.size + 1, 2, none⟩ = some (.slice none 0 0) := by rw [Lib.cell_of_heap r3]; rfl
  have z0 := Lib.frozen_of_heap r3 0
  have z1 := Lib.frozen_of_heap r3 1
  have z2 := Lib.frozen_of_heap r3 2
  have d6 : w3.cell? ⟨w.heap.size, 6, none⟩ = some (.slice (some da) dn dc) := by rw [Lib.cell_of_heap r2]; rfl
  clear qv q2 q3 r3 k1 hE2
  rcases hv with ⟨v, hv, rfl⟩ | ⟨hv, rfl⟩
  ·have HV := hide' hv
   clear hv
   have hdr3 := H1.out.2.2.2.2.below HB3.out
   have hnl := nameP_len HN.out
   have qo := own_any ⟨nm, (v : Int), .slice (some da) dn dc, x⟩ w3 hdr3 (by simp only; omega) (by simp only; omega)
   dsimp only at qo
   go_wp2_with fail
   refine qo.mono ?_
   rintro r w4 ⟨⟨dv', rfl, hdat, hown⟩, hb4⟩
   dsimp only
   obtain ⟨ea, en, ec, rfl⟩ := hdat.form
   have hs4 := hb4.size
   have r4 := (hb4.block (w.heap.size + 1) (by omega)).trans HP2.out
   have HP4 := hide' r4
   have HB4 := hide' (HB3.out.trans (hb4.mono (by omega)))
   have HD4 := hide' (And.intro hdat hown)
   clear m0 m1 m2 z0 z1 z2
   have m0 : w4.cell? ⟨w.heap.size + 1, 0, none⟩ = some (.string ⟨#[]⟩) := by rw [Lib.cell_of_heap r4]; rfl
   have m1 : w4.cell? ⟨w.heap.size + 1, 1, none⟩ = some (.int .i64 0) := by rw [Lib.cell_of_heap r4]; rfl
   have m2 : w4.cell? ⟨w.heap.size + 1, 2, none⟩ = some (.slice none 0 0) := by rw [Lib.cell_of_heap r4]; rfl
   have z0 := Lib.frozen_of_heap r4 0
   have z1 := Lib.frozen_of_heap r4 1
   have z2 := Lib.frozen_of_heap r4 2
   clear qo r4 hdat hown hdr3 r2 d6
   go_wp2_with fail
   have hX := three_set HP4.out (.string (mk nm)) (.int .i64 (v : Int)) (.slice ea en ec)
   have hBX := below_three (P := w.heap.size + 1) HB4.out (by omega) (.string (mk nm)) (.int .i64 (v : Int)) (.slice ea en ec)
   have hO : ∀ g, g ≠ w.heap.size + 1 → (((w4.setCell ⟨w.heap.size + 1, 0, none⟩ (.string (mk nm))).setCell ⟨w.heap.size + 1, 1, none⟩ (.int .i64 (v : Int))).setCell ⟨w.heap.size + 1, 2, none⟩ (.slice ea en ec)).heap[g]? = w4.heap[g]? := fun g hg => three_other hg _ _ _
   revert hX hBX hO
   generalize (((w4.setCell ⟨w.heap.size + 1, 0, none⟩ (.string (mk nm))).setCell ⟨w.heap.size + 1, 1, none⟩ (.int .i64 (v : Int))).setCell ⟨w.heap.size + 1, 2, none⟩ (.slice ea en ec)) = X
   intro hX hBX hO
   have x0 : X.cell? ⟨w.heap.size + 1, 0, none⟩ = some (.string (mk nm)) := by rw [Lib.cell_of_heap hX]; rfl
   have x1 : X.cell? ⟨w.heap.size + 1, 1, none⟩ = some (.int .i64 (v : Int)) := by rw [Lib.cell_of_heap hX]; rfl
   have x2 : X.cell? ⟨w.heap.size + 1, 2, none⟩ = some (.slice ea en ec) := by rw [Lib.cell_of_heap hX]; rfl
   refine bodyPost_ret (by simp [results, Tryz.results144, go_sem, x0, x1, x2]; rfl) rfl ?_
   refine ⟨hBX, mb_some HN.out HV.out ⟨_, rfl, HD4.out.1.kept fun g hg => hO g (by have := HD4.out.2 g hg; omega), fun g hg => by have := HD4.out.2 g hg; omega⟩⟩
  ·have HV := hide' hv
   clear hv
   go_wp2_with fail
   have hX := three_set HP2.out (.string ⟨#[]⟩) (.int .i64 0) (.slice none 0 0)
   have hBX := below_three (P := w.heap.size + 1) HB3.out (by omega) (.string ⟨#[]⟩) (.int .i64 0) (.slice none 0 0)
   revert hX hBX
   generalize (((w3.setCell ⟨w.heap.size + 1, 0, none⟩ (.string ⟨#[]⟩)).setCell ⟨w.heap.size + 1, 1, none⟩ (.int .i64 0)).setCell ⟨w.heap.size + 1, 2, none⟩ (.slice none 0 0)) = X
   intro hX hBX
   have x0 : X.cell? ⟨w.heap.size + 1, 0, none⟩ = some (.string ⟨#[]⟩) := by rw [Lib.cell_of_heap hX]; rfl
   have x1 : X.cell? ⟨w.heap.size + 1, 1, none⟩ = some (.int .i64 0) := by rw [Lib.cell_of_heap hX]; rfl
   have x2 : X.cell? ⟨w.heap.size + 1, 2, none⟩ = some (.slice none 0 0) := by rw [Lib.cell_of_heap hX]; rfl
   refine bodyPost_ret (by simp [results, Tryz.results144, go_sem, x0, x1, x2]; rfl) rfl ?_
   exact ⟨hBX, mb_none2 HV.out rfl⟩
end Go.Proofs.YtabmnkddmdffkaaGreatDoor.Arc
namespace Go.Proofs.YtabmnkddmdffkaaGreatDoor.Arc
open Go.RowKit Go.Maps
section
variable {P : Program} {md : Region.Mode} {ops : Array Oper} {Q : Exit → Act → World → Prop} {C : World → Prop} {X : List Nat}
end
def cellsM (n : Mv) : List Value := [.string (mk n.name), .int .i64 n.date, n.dv]
def flat (ns : List Mv) : List Value := ns.flatMap cellsM
theorem flat_at : ∀ (ns : List Mv) (i r : Nat) (n : Mv), ns[i]? = some n → r < 3 → (flat ns)[i * 3 + r]? = (cellsM n)[r]?
 | [], i, r, n, h, _ => by simp at h
 | m :: s, 0, r, n, h, hr => by
  obtain rfl : m = n := by simpa using h
  have : flat (m :: s) = cellsM m ++ flat s := rfl
  rw [this, Nat.zero_mul, Nat.zero_add, List.getElem?_append_left (by show r < 3; exact hr)]
 | m :: s, i + 1, r, n, h, hr => by
  have : flat (m :: s) = cellsM m ++ flat s := rfl
  rw [this, List.getElem?_append_right (by show 3 ≤ _; omega)]
  have e : (i + 1) * 3 + r - (cellsM m).length = i * 3 + r := by show (i + 1) * 3 + r - 3 = _; omega
  rw [e]
  exact flat_at s i r n (by simpa using h) hr
structure MsAt (w : World) (b0 : Nat) (v : Value) (ns : List Mv) : Prop where
 row : (v = .slice none 0 0 ∧ ns = []) ∨ ∃ g cap cur, v = .slice (some ⟨g, 0, none⟩) ns.length cap ∧ b0 ≤ g ∧ w.heap[g]? = some (.cells cur 86 (0, 0)) ∧ ns.length ≤ cap ∧ cap * 3 ≤ cur.size ∧ cur.toList.take (ns.length * 3) = flat ns
 dat : ∀ n ∈ ns, Dat w n.dv n.data
 hi : ∀ n ∈ ns, ∀ g, n.dv.ownBlock = some g → b0 ≤ g
theorem cell_row {w : World} {g : Nat} {cur : Array Value} {T : TypeId} {ns : List Mv} (hg : w.heap[g]? = some (.cells cur T (0, 0))) (ht : cur.toList.take (ns.length * 3) = flat ns) {i r : Nat} {n : Mv} {u : Value} (hn : ns[i]? = some n) (hr : r < 3) (hu : (cellsM n)[r]? = some u) :
  w.cell? ⟨g, i * 3 + r, none⟩ = some u := by
 rw [Lib.cell_of_heap hg]
 have hil : i < ns.length := (List.getElem?_eq_some_iff.1 hn).1
 have h1 := flat_at ns i r n hn hr
 rw [← ht, List.getElem?_take_of_lt (by omega), hu] at h1
 simpa using h1
theorem MsAt.mems {w : World} {b0 : Nat} {v : Value} {ns : List Mv} (h : MsAt w b0 v ns) : Mems w v ns := by
 rcases h.row with ⟨rfl, rfl⟩ | ⟨g, cap, cur, rfl, hb, hg, hc, hs, ht⟩
 ·exact .inl ⟨⟨_, _, rfl⟩, rfl⟩
 ·refine .inr ⟨g, 0, cap, rfl, hc, ⟨lt_of_block hg, fun i n hi => ?_, fun i n hi => ?_, fun i n hi => ?_⟩, fun n hn => (h.dat n hn).rds⟩
  ·rw [Nat.zero_add]; exact cell_row hg ht (r := 0) hi (by omega) rfl
  ·rw [Nat.zero_add]; exact cell_row hg ht (r := 1) hi (by omega) rfl
  ·rw [Nat.zero_add]; exact cell_row hg ht (r := 2) hi (by omega) rfl
theorem MsAt.nil (w : World) (b0 : Nat) : MsAt w b0 (.slice none 0 0) [] := ⟨.inl ⟨rfl, rfl⟩, fun n hn => (by cases hn), fun n hn => (by cases hn)⟩
theorem info37 : (Tryz.prog.info? 86).map (fun i : TypeInfo => (i.zero, i.size, i.bytes)) = some (some (.agg #[.string ⟨#[]⟩, .int .i64 0, .slice none 0 0]), 3, 48) := by kernel_rfl
theorem dat_grown {w w' : World} {v va : Value} {bs : Bs} {base n : Nat} {xs : List Value} (hd : Dat w v bs) (ho : w.ownsRow base 86 3 va n xs) (hg : w.grownBy w' va.ownBlock) : Dat w' v bs := by
 refine hd.kept fun g hgb => hg.block g (hd.lt g hgb) fun e => ?_
 rcases ho.2 with ⟨rfl, _⟩ | ⟨g', cap, cur, rfl, _, hr, _⟩
 ·cases e
 ·obtain ⟨cur', hc⟩ := hd.elem g hgb
  have e1 : g = g' := Option.some.inj e
  rw [e1, hr] at hc
  simp at hc
theorem own_kept {w w' : World} {base n : Nat} {v : Value} {xs : List Value} (h : w.ownsRow base 86 3 v n xs) (hb : Below w.heap.size w w') : w'.ownsRow base 86 3 v n xs := by
 refine ⟨h.1, ?_⟩
 rcases h.2 with h1 | ⟨g, cap, cur, rfl, h2, hg, r⟩
 ·exact .inl h1
 ·exact .inr ⟨g, cap, cur, rfl, h2, (hb.block g (lt_of_block hg)).trans hg, r⟩
theorem news_cells (w : World) (n : Mv) : ∀ j u, (cellsM n)[j]? = some u → (w.alloc (.cells #[.string (mk n.name), .int .i64 n.date, n.dv] 86)).cell? ((⟨w.heap.size, 0, none⟩ : Addr).add j) = some u := by
 intro j u hj
 rw [add_zero, Lib.cell_of_heap (alloc_new _ _)]
 simpa [cellsM] using hj
theorem news_one (p : Bs) (t : Int) (a : Option Addr) (m c : Nat) (d : Bs) : ∀ u ∈ cellsM ⟨p, t, .slice a m c, d⟩, u.oneCell' = true := by
 intro u hu
 simp only [cellsM, List.mem_cons, List.not_mem_nil, or_false] at hu
 rcases hu with rfl | rfl | rfl <;> rfl
theorem own_lt {w : World} {base n : Nat} {va : Value} {xs : List Value} (ho : w.ownsRow base 86 3 va n xs) {b : Nat} (hb : b < base) : some b ≠ va.ownBlock := by
 intro e1
 rcases ho.2 with ⟨rfl, _⟩ | ⟨g, cap, cur, rfl, hg, _⟩
 ·cases e1
 ·have := Option.some.inj e1
  simp only at this
  omega
theorem flat_snoc (ms : List Mv) (m : Mv) : flat (ms ++ [m]) = flat ms ++ cellsM m := by unfold flat; rw [List.flatMap_append]; simp
def toE (m : Mv) : Bs × Int × Bs := (m.name, m.date, m.data)
theorem toE_iff (a b : Mv) : toE a = toE b ↔ a.name = b.name ∧ a.date = b.date ∧ a.data = b.data := by
 unfold toE
 obtain ⟨p, t, dv, x⟩ := a
 obtain ⟨p', t', dv', x'⟩ := b
 simp only [Prod.mk.injEq]
theorem map_ne {ns ms : List Mv} {k : Nat} {n m : Mv} (hn : ns[k]? = some n) (hm : ms[k]? = some m) (h : ¬ toE n = toE m) : ¬ ns.map toE = ms.map toE := by
 intro e
 have := congrArg (·[k]?) e
 simp only [List.getElem?_map, hn, hm, Option.map_some, Option.some.injEq] at this
 exact h this
theorem map_step {ns ms : List Mv} {k : Nat} {n m : Mv} (hn : ns[k]? = some n) (hm : ms[k]? = some m) (h : (ns.take k).map toE = (ms.take k).map toE) (e : toE n = toE m) : (ns.take (k + 1)).map toE = (ms.take (k + 1)).map toE := by
 rw [List.take_add_one, List.take_add_one, List.map_append, List.map_append, h, hn, hm]
 simp [e]
end Go.Proofs.YtabmnkddmdffkaaGreatDoor.Arc
namespace Go.Proofs.YtabmnkddmdffkaaGreatDoor.Arc
open Go.RowKit Go.Maps
theorem sumM_map {f : Mv → Nat} (hf : ∀ a b, toE a = toE b → f a = f b) : ∀ {ms ns : List Mv}, ms.map toE = ns.map toE → sumM f ms = sumM f ns
 | [], [], _ => rfl
 | [], _ :: _, h => by simp at h
 | _ :: _, [], h => by simp at h
 | a :: ms, b :: ns, h => by
  simp only [List.map_cons, List.cons.injEq] at h
  simp only [sumM]
  rw [hf a b h.1, sumM_map hf h.2]
theorem wtT_map {a b : Mv} (h : toE a = toE b) : wtT a = wtT b := by rw [toE_iff] at h; unfold wtT; rw [h.1]
theorem wtD_map {a b : Mv} (h : toE a = toE b) : wtD a = wtD b := by rw [toE_iff] at h; unfold wtD; rw [h.2.2]
theorem ok_map {a b : Mv} (h : toE a = toE b) : okM a = okM b := by rw [toE_iff] at h; unfold okM; rw [h.1, h.2.1]
theorem memB_map (p : Nat) {a b : Mv} (h : toE a = toE b) : memB p a = memB p b := by rw [toE_iff] at h; unfold memB; rw [h.1, h.2.1, h.2.2]
theorem tbl_map : ∀ {ms ns : List Mv}, ms.map toE = ns.map toE → tbl ms = tbl ns
 | [], [], _ => rfl
 | [], _ :: _, h => by simp at h
 | _ :: _, [], h => by simp at h
 | a :: ms, b :: ns, h => by
  simp only [List.map_cons, List.cons.injEq] at h
  have h1 := (toE_iff a b).1 h.1
  simp only [tbl]
  rw [h1.1, tbl_map h.2]
theorem bodyB_map : ∀ (p : Nat) {ms ns : List Mv}, ms.map toE = ns.map toE → bodyB p ms = bodyB p ns
 | _, [], [], _ => rfl
 | _, [], _ :: _, h => by simp at h
 | _, _ :: _, [], h => by simp at h
 | p, a :: ms, b :: ns, h => by
  simp only [List.map_cons, List.cons.injEq] at h
  simp only [bodyB]
  rw [memB_map p h.1, wtT_map h.1, bodyB_map _ h.2]
theorem all_map : ∀ {ms ns : List Mv}, ms.map toE = ns.map toE → ms.all okM = ns.all okM
 | [], [], _ => rfl
 | [], _ :: _, h => by simp at h
 | _ :: _, [], h => by simp at h
 | a :: ms, b :: ns, h => by
  simp only [List.map_cons, List.cons.injEq] at h
  simp only [List.all_cons]
  rw [ok_map h.1, all_map h.2]
theorem arch_map {ms ns : List Mv} (h : ms.map toE = ns.map toE) : archB ms = archB ns := by
 unfold archB tableB
 rw [tbl_map h, bodyB_map 0 h]
theorem wrong_map {ms ns : List Mv} (h : ms.map toE = ns.map toE) : wrongR ms = wrongR ns := by
 have hl : ms.length = ns.length := by simpa using congrArg List.length h
 unfold wrongR lenA
 rw [sumM_map (fun _ _ => wtD_map) h, sumM_map (fun _ _ => wtT_map) h, all_map h, hl]
end Go.Proofs.YtabmnkddmdffkaaGreatDoor.Arc
namespace Go.Proofs.YtabmnkddmdffkaaGreatDoor.Arc
open Go.RowKit Go.Maps
structure Bld (w : World) (B : Nat) (l : Value) (ms : List Mv) : Prop where
 own : w.ownsRow B 86 3 l ms.length (flat ms)
 dat : ∀ m ∈ ms, Dat w m.dv m.data
 hi : ∀ m ∈ ms, OwnB B m.dv
theorem Bld.nil (w : World) (B : Nat) : Bld w B (.slice none 0 0) [] := ⟨World.ownsRow_nil _ _ _ _, fun n hn => (by cases hn), fun n hn => (by cases hn)⟩
theorem Bld.below {w w' : World} {B : Nat} {l : Value} {ms : List Mv} (h : Bld w B l ms) (hb : Below w.heap.size w w') : Bld w' B l ms :=
 ⟨own_kept h.own hb, fun m hm => (h.dat m hm).kept fun g hg => hb.block g ((h.dat m hm).lt g hg), h.hi⟩
theorem Bld.form {w : World} {B : Nat} {l : Value} {ms : List Mv} (h : Bld w B l ms) : ∃ a c, l = .slice a ms.length c := by
 rcases h.own.2 with ⟨e, e2⟩ | ⟨g1, c1, cur1, e, _⟩
 ·exact ⟨none, 0, by rw [e, e2]⟩
 ·exact ⟨_, _, e⟩
theorem Bld.msAt {w : World} {B : Nat} {l : Value} {ms : List Mv} (h : Bld w B l ms) : MsAt w B l ms := by
 refine ⟨?_, h.dat, fun m hm g hg => h.hi m hm g hg⟩
 rcases h.own.2 with ⟨e, e2⟩ | ⟨g, cap, cur, e, hbg, hg, r1, r2, r3, r4⟩
 ·exact .inl ⟨e, List.length_eq_zero_iff.1 e2⟩
 ·exact .inr ⟨g, cap, cur, e, hbg, hg, r1, by omega, r4⟩
theorem Bld.step {w w' : World} {B : Nat} {l l' : Value} {ms : List Mv} {x : Mv} (h : Bld w B l ms) (hd : Dat w x.dv x.data) (hx : OwnB B x.dv) (hg : w.grownBy w' l.ownBlock) (ho : w'.ownsRow B 86 3 l' (ms.length + 1) (flat ms ++ cellsM x)) : Bld w' B l' (ms ++ [x]) := by
 refine ⟨by rw [flat_snoc, List.length_append]; exact ho, fun m hm => ?_, fun m hm => ?_⟩
 ·rcases List.mem_append.1 hm with hm | hm
  ·exact dat_grown (h.dat m hm) h.own hg
  ·rw [List.mem_singleton.1 hm]; exact dat_grown hd h.own hg
 ·rcases List.mem_append.1 hm with hm | hm
  ·exact h.hi m hm
  ·rw [List.mem_singleton.1 hm]; exact hx
theorem Bld.grown {w w' : World} {B C : Nat} {w0 : World} {l : Value} {ms : List Mv} (h : Bld w B l ms) (hg : w.grownBy w' l.ownBlock) (hb : Below C w0 w) (hC : C ≤ B) (hC' : C ≤ w.heap.size) : Below C w0 w' :=
 hb.trans ⟨hg.os, hg.tape, hg.output, hg.size, fun b hb => hg.block b (by omega) (own_lt h.own (by omega))⟩
end Go.Proofs.YtabmnkddmdffkaaGreatDoor.Arc
namespace Go.Proofs.YtabmnkddmdffkaaGreatDoor.Arc
open Go.RowKit Go.Maps Go.Shelf
def scanR (bs : Bs) : Option (List Mm) := if Lib.hasPrefix bs magicB = true then scanP 5001 [] (bs.drop 8) [] else none
theorem arch_scan {ms : List Mv} {bs : Bs} (h : wrongR ms = 0) (e : archB ms = bs) : scanR bs = some (ms.map tE) ∧ bs.length ≤ 65536 := by
 obtain ⟨h1, h2, h3⟩ := wrong_zero h
 subst e
 refine ⟨?_, by rw [arch_length h2 h3]; exact h2⟩
 unfold scanR
 have hp : Lib.hasPrefix (archB ms) magicB = true := by
  unfold archB
  rw [List.append_assoc]
  unfold Lib.hasPrefix
  simp [magicB]
 rw [if_pos hp]
 exact scan_arch ms h 5001 (Nat.le_refl _)
theorem none_arch {bs : Bs} (h : scanR bs = none) : ∀ ms, wrongR ms = 0 → archB ms ≠ bs := fun ms h1 h2 => by
 have := (arch_scan h1 h2).1
 rw [h] at this
 cases this
theorem no_long {bs : Bs} (h : 65536 < bs.length) : ∀ ms, wrongR ms = 0 → archB ms ≠ bs := fun ms h1 h2 => by
 have := (arch_scan h1 h2).2
 omega
theorem no_other {bs : Bs} {ns : List Mv} (hs : scanR bs = some (ns.map tE)) (h : wrongR ns ≠ 0 ∨ archB ns ≠ bs) : ∀ ms, wrongR ms = 0 → archB ms ≠ bs := fun ms h1 h2 => by
 have e := (arch_scan h1 h2).1
 rw [hs] at e
 have e2 : ns.map toE = ms.map toE := Option.some.inj e
 rcases h with h | h
 ·exact h ((wrong_map e2).trans h1)
 ·exact h ((arch_map e2).trans h2)
theorem cutP_some {b c d x y : Bs} (h : cutP b = some (c, d, x, y)) : c.length ≤ 16 ∧ d.length ≤ 16 ∧ x.length ≤ b.length ∧ y.length + 60 ≤ b.length := by
 unfold cutP at h
 split at h
 ·cases h
 ·rename_i hl
  split at h
  ·cases h
  ·split at h
   ·have e := Option.some.inj h
    have e1 := congrArg Prod.fst e
    have e2 := congrArg (fun p => p.2.1) e
    have e3 := congrArg (fun p => p.2.2.1) e
    have e4 := congrArg (fun p => p.2.2.2) e
    dsimp only at e1 e2 e3 e4
    subst e1 e2 e3 e4
    have t1 := trimR_len (b.take 16)
    have t2 := trimR_len ((b.drop 16).take 12)
    have t3 := List.length_take_le 16 b
    have t4 := List.length_take_le 12 (b.drop 16)
    refine ⟨by omega, by omega, ?_, ?_⟩
    ·rw [List.length_take, List.length_drop]; omega
    ·rw [List.length_drop, List.length_drop]; omega
   ·cases h
theorem scan_end (k : Nat) (t : Bs) (l : List Mm) : scanP k t [] l = some l := by
 cases k <;> simp [scanP]
theorem scan_none {k : Nat} {t r : Bs} {l : List Mm} (hr : r ≠ []) (h : cutP r = none) : scanP (k + 1) t r l = none := by
 rw [scanP, if_neg hr, h]
theorem scan_tab {k : Nat} {t r c d x y : Bs} {l : List Mm} (hr : r ≠ []) (h : cutP r = some (c, d, x, y)) (hc : c = [47, 47]) : scanP (k + 1) t r l = scanP k x y l := by
 rw [scanP, if_neg hr, h]
 dsimp only
 rw [if_pos hc]
theorem scan_mem {k : Nat} {t r c d x y n : Bs} {v : Nat} {l : List Mm} (hr : r ≠ []) (h : cutP r = some (c, d, x, y)) (hc : c ≠ [47, 47]) (hn : nameP c t = some n) (hv : valP d = some v) : scanP (k + 1) t r l = scanP k t y (l ++ [(n, (v : Int), x)]) := by
 rw [scanP, if_neg hr, h]
 dsimp only
 rw [if_neg hc, hn, hv]
theorem scan_bad {k : Nat} {t r c d x y : Bs} {l : List Mm} (hr : r ≠ []) (h : cutP r = some (c, d, x, y)) (hc : c ≠ [47, 47]) (hn : nameP c t = none ∨ valP d = none) : scanP (k + 1) t r l = none := by
 rw [scanP, if_neg hr, h]
 dsimp only
 rw [if_neg hc]
 rcases hn with hn | hn
 ·rw [hn]
 ·rw [hn]
  cases nameP c t <;> rfl
theorem fine_small {ms : List Mv} (hl : ms.length ≤ 5001) (h : ∀ m ∈ ms, m.name.length ≤ 70000 ∧ m.data.length ≤ 70000) : Fine ms := by
 have h0 : ∀ l : List Mv, (∀ m ∈ l, m.name.length ≤ 70000 ∧ m.data.length ≤ 70000) → sumM wtD l ≤ 80000 * l.length ∧ sumM wtT l ≤ 80000 * l.length := by
  intro l
  induction l with
  | nil => intro _; simp [sumM]
  | cons m r ih =>
   intro h
   obtain ⟨a, b⟩ := h m (List.mem_cons_self ..)
   have := ih fun n hn => h n (List.mem_cons_of_mem _ hn)
   have h1 : wtD m ≤ 80000 := by unfold wtD evn; omega
   have h2 : wtT m ≤ 80000 := by unfold wtT; split <;> omega
   simp only [sumM, List.length_cons]
   omega
 obtain ⟨h1, h2⟩ := h0 ms h
 refine ⟨by omega, ?_, fun m hm => by have := h m hm; omega⟩
 unfold lenA evn
 split <;> omega
end Go.Proofs.YtabmnkddmdffkaaGreatDoor.Arc
