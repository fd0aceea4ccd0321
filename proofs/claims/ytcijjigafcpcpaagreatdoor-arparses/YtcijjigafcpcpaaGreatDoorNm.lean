/- The contracts of a piece's name and member. -/
import Derived.Test.YtcijjigafcpcpaaGreatDoorCp
import Derived.Test.YtcijjigafcpcpaaGreatDoorOwn2
import Derived.Lib.SlBytesConst
namespace Go.Proofs.YtcijjigafcpcpaaGreatDoor
open Go.RowKit Go.Maps Go.Shelf

/-- what the library's variable MaxLen holds: some number -/
def Mx (w : World) : Prop := ∃ m, w.cell? ⟨2, 0, none⟩ = some (.int .i64 m)
theorem Mx.below {w w' : World} {B : Nat} (h : Mx w) (hb : Below B w w') (hB : 2 < B) : Mx w' := by
  obtain ⟨m, hm⟩ := h
  exact ⟨m, (hb.cell (p := ⟨2, 0, none⟩) hB).trans hm⟩
/-- the table: none yet, or a slice of bytes -/
def Tbs (w : World) (v : Value) (t : Bs) : Prop := (v = .slice none 0 0 ∧ t = []) ∨ Bsl w v t
theorem Bsl.below {w w' : World} {v : Value} {t : Bs} (h : Bsl w v t) (hb : Below w.heap.size w w') : Bsl w' v t := by
  obtain ⟨a, n, cap, h1, h2, h3, h4⟩ := h
  exact ⟨a, n, cap, h1, h2, h3, h4.below hb⟩
theorem Tbs.below {w w' : World} {v : Value} {t : Bs} (h : Tbs w v t) (hb : Below w.heap.size w w') : Tbs w' v t := by
  rcases h with h | h
  · exact .inl h
  · exact .inr (h.below hb)
def nums (b : Bs) : List Int := b.map fun x => (x.toNat : Int)
theorem bytesOf_nums (b : Bs) : Lib.bytesOf (nums b) = b := by
  unfold Lib.bytesOf nums
  rw [List.map_map]
  conv => rhs; rw [← List.map_id b]
  apply List.map_congr_left
  intro x _
  simp
theorem bytesIn_of {w : World} {a : Addr} {n cap : Nat} {bs : Bs} (h : Rds w (.slice (some a) n cap) bs) (hn : n = bs.length) : Lib.BytesIn w (some a) n (nums bs) := by
  rcases h with ⟨e, _⟩ | ⟨a', c, e, _, hc⟩
  · cases e
  · cases e
    refine Lib.BytesIn.of_cells fun i hi => hc i _ ?_
    unfold Lib.byteCells nums
    rw [List.getElem?_map, List.getElem?_eq_getElem (by omega), List.getD_eq_getElem?_getD, List.getElem?_map, List.getElem?_eq_getElem (by omega)]
    rfl
theorem nums_range (b : Bs) : ∀ x ∈ nums b, 0 ≤ x ∧ x < 256 := by
  intro x hx
  unfold nums at hx
  obtain ⟨y, _, rfl⟩ := List.mem_map.1 hx
  have := y.toNat_lt
  exact ⟨by omega, by omega⟩
theorem nums_len (b : Bs) : (nums b).length = b.length := by unfold nums; simp
def NmR (c t : Bs) (r : Ending) : Prop := match nameP c t with
  | some nm => r = .returned (.tuple #[.string (mk nm), .bool true])
  | none => ∃ s, r = .returned (.tuple #[.string s, .bool false])
abbrev pcCells (c0 c1 c2 c3 c4 c5 : Bs) (dv : Value) : Array Value := #[.string (mk c0), .string (mk c1), .string (mk c2), .string (mk c3), .string (mk c4), .string (mk c5), dv]
theorem nameP_short (c t : Bs) (hp : Lib.hasPrefix c [47] = false) : nameP c t = if Lib.hasSuffix c [47] = true then some (c.take (c.length - 1)) else none := by
  unfold nameP
  rw [if_neg (by rw [hp]; decide)]
set_option maxRecDepth 100000 in
set_option maxHeartbeats 2000000 in
theorem name_sh (c0 c1 c2 c3 c4 c5 : Bs) (tv : Value) (t : Bs) (w : World) (da : Option Addr) (dn dc : Nat) (hl : c0.length ≤ 16) (hp : Lib.hasPrefix c0 [47] = false) :
    Calls Tryz.prog 54 #[pcv c0 c1 c2 c3 c4 c5 (.slice da dn dc), tv] w fun r w' => Below w.heap.size w w' ∧ NmR c0 t r := by
  have q1 := fun w => Tryz.strings_CutPrefix (mk c0) ⟨#[47]⟩ w
  have q2 := fun w => Tryz.strings_CutSuffix (mk c0) ⟨#[47]⟩ w (by rw [mk_size]; omega)
  have e1 : Lib.trimPrefix c0 [47] = c0 := by unfold Lib.trimPrefix; rw [hp]; rfl
  have e2 : ∀ b, Lib.hasSuffix c0 [47] = b → Lib.trimSuffix c0 [47] = if b then c0.take (c0.length - 1) else c0 := fun b h => by unfold Lib.trimSuffix; rw [h]; rfl
  have hn := nameP_short c0 t hp
  have hbW : Below w.heap.size w (w.alloc (.cells (pcCells c0 c1 c2 c3 c4 c5 (.slice da dn dc)) 73)) := (Below.refl _ _).alloc (Nat.le_refl _) _
  dsimp only [mk] at q1 q2
  rw [e1, hp] at q1
  cases hs : Lib.hasSuffix c0 [47] with
  | true =>
    rw [hs, if_pos rfl] at hn
    rw [hs, e2 true hs, if_pos rfl] at q2
    have HN := hide' hn
    clear hn e1 e2 hs hp
    go_enter Tryz.func54, Tryz.ntmps54
    go_wp2_with fail
    refine (q1 _).mono ?_
    rintro e w' ⟨rfl, he⟩
    subst he
    go_wp2_with fail
    refine (q2 _).mono ?_
    rintro e w' ⟨rfl, he⟩
    subst he
    go_wp2_with fail
    go_ret2
    refine ⟨hbW, ?_⟩
    unfold NmR
    rw [HN.out]
    rfl
  | false =>
    rw [hs, if_neg (by decide)] at hn
    rw [hs, e2 false hs, if_neg (by decide)] at q2
    have HN := hide' hn
    clear hn e1 e2 hs hp
    go_enter Tryz.func54, Tryz.ntmps54
    go_wp2_with fail
    refine (q1 _).mono ?_
    rintro e w' ⟨rfl, he⟩
    subst he
    go_wp2_with fail
    refine (q2 _).mono ?_
    rintro e w' ⟨rfl, he⟩
    subst he
    go_wp2_with fail
    go_ret2
    refine ⟨hbW, ?_⟩
    unfold NmR
    rw [HN.out]
    exact ⟨_, rfl⟩
theorem nameP_long (c t : Bs) (hp : Lib.hasPrefix c [47] = true) : (valP (c.drop 1) = none → nameP c t = none) ∧ ∀ k, valP (c.drop 1) = some k → (¬ k ≤ t.length → nameP c t = none) ∧ (k ≤ t.length → nameP c t = if 0 ≤ Lib.index (t.drop k) [47, 10] then some ((t.drop k).take (Lib.index (t.drop k) [47, 10]).toNat) else none) := by
  refine ⟨fun h => ?_, fun k h => ⟨fun h2 => ?_, fun h2 => ?_⟩⟩
  · unfold nameP; rw [if_pos hp, h]
  · unfold nameP; rw [if_pos hp, h]; dsimp only; rw [if_neg h2]
  · unfold nameP; rw [if_pos hp, h]; dsimp only; rw [if_pos h2]
    unfold Lib.cut
    split
    · rfl
    · rfl
set_option maxRecDepth 100000 in
set_option maxHeartbeats 2000000 in
theorem name_lg (c0 c1 c2 c3 c4 c5 : Bs) (p1 : Option Addr) (n c : Nat) (t : Bs) (w : World) (da : Option Addr) (dn dc : Nat) (hl : c0.length ≤ 16) (hp : Lib.hasPrefix c0 [47] = true) (hE : EvS w) (h3 : 3 < w.heap.size) (hn : n = t.length) (hnn : n ≤ 100000) (hT : Tbs w (.slice p1 n c) t) (hnc : n ≤ c) (hM : Mx w) :
    Calls Tryz.prog 54 #[pcv c0 c1 c2 c3 c4 c5 (.slice da dn dc), .slice p1 n c] w fun r w' => Below w.heap.size w w' ∧ NmR c0 t r := by
  have q1 := fun w => Tryz.strings_CutPrefix (mk c0) ⟨#[47]⟩ w
  have e1 : Lib.trimPrefix c0 [47] = c0.drop 1 := by unfold Lib.trimPrefix; rw [hp]; rfl
  have hnm := nameP_long c0 t hp
  have hbW : Below w.heap.size w (w.alloc (.cells (pcCells c0 c1 c2 c3 c4 c5 (.slice da dn dc)) 73)) := (Below.refl _ _).alloc (Nat.le_refl _) _
  dsimp only [mk] at q1
  rw [e1, hp] at q1
  have qv := value_any (mk (c0.drop 1)) _ (by rw [mk_size, List.length_drop]; omega) (hE.below hbW h3) (Nat.lt_of_lt_of_le h3 hbW.size)
  rw [tl_mk (c0.drop 1)] at qv
  generalize c0.drop 1 = pl at q1 qv hnm
  have HNM := hide' hnm
  have HNN := hide' hn
  clear hnm e1 hp hn
  go_enter Tryz.func54, Tryz.ntmps54
  go_wp2_with fail
  refine (q1 _).mono ?_
  rintro e w' ⟨rfl, he⟩
  subst he
  go_wp2_with fail
  refine qv.mono ?_
  rintro r w2 ⟨hb2, ⟨k, hv, rfl⟩ | ⟨hv, rfl⟩⟩
  · have HV := hide' hv
    have hB2 := hbW.trans (hb2.mono hbW.size)
    have HB := hide' hB2
    clear hv hb2 qv q1
    by_cases hk : k ≤ n
    · have g1 : ¬ (n : Int) < (k : Int) := by omega
      have g2 : (k : Int) ≤ (n : Int) := by omega
      have hcv := Lib.run_convert_bytes_const (P := Tryz.prog) w2 26 5 #[.int .u8 47, .int .u8 10] 2 2 Tryz.underlying26 Tryz.underlying5
      have hk' : k ≤ t.length := by rw [← HNN.out]; exact hk
      have hnm2 := (HNM.out.2 k HV.out).2 hk'
      have HN2 := hide' hnm2
      have HT := hide' hT
      clear hnm2 hT HNM hE hbW
      obtain ⟨W3, hW3⟩ : ∃ W, W = w2.alloc (.cells #[.int .u8 47, .int .u8 10] 5 (2, 3)) := ⟨_, rfl⟩
      have hb3 : Below w2.heap.size w2 W3 := by rw [hW3]; exact (Below.refl _ _).alloc (Nat.le_refl _) _
      have hB3 := hB2.trans (hb3.mono hB2.size)
      have hs3 : W3.heap[w2.heap.size]? = some (.cells #[.int .u8 47, .int .u8 10] 5 (2, 3)) := by rw [hW3]; exact heap_alloc_new w2 _
      have hsep : Lib.BytesIn W3 (some ⟨w2.heap.size, 0, none⟩) 2 (nums [47, 10]) := Lib.BytesIn.of_cells fun i hi => by
        rw [Addr.add_lit, Nat.zero_add, Lib.cell_of_heap hs3]
        match i, hi with
        | 0, _ => rfl
        | 1, _ => rfl
      obtain ⟨mx, hmx⟩ := hM.below hB3 (by omega)
      have HW3 := hide' hW3
      clear hW3 hs3 hb3 hB2
      by_cases hck : c = k
      · have hz : n - k = 0 := by omega
        have hd : t.drop k = [] := List.drop_eq_nil_of_le (by rw [← HNN.out]; omega)
        have hidx : Lib.index (t.drop k) [47, 10] = -1 := by rw [hd]; rfl
        have qc := Tryz.bytes_Cut_all p1 (some ⟨w2.heap.size, 0, none⟩) 0 0 2 2 [] (nums [47, 10]) mx W3 rfl rfl (by simp) (nums_range _) (Lib.BytesIn.nil _ _ _) hsep (fun _ => rfl) (Nat.le_refl _) (by decide) (by decide) hmx
        rw [bytesOf_nums] at qc
        have hi2 : Lib.index (Lib.bytesOf []) [47, 10] = -1 := rfl
        rw [hi2] at qc
        have hcv0 : Lib.cutV p1 0 0 2 (-1) = .tuple #[.slice p1 0 0, .slice none 0 0, .bool false] := rfl
        rw [hcv0] at qc
        have hst : ∀ q, (convert 26 9 (.slice p1 0 0)).run Tryz.prog (W3.drewN q) = .ok (.string (mk [])) (W3.drewN q) := fun q => rds_str (by
          cases p1 with
          | none => exact .inl ⟨rfl, rfl⟩
          | some a => exact rds_empty _ _ _)
        rw [hidx, if_neg (by decide)] at HN2
        clear hd hidx hi2 hcv0 hmx hsep HT hk hk' hnc hnn
        go_wp2_with fail
        rw [← HW3.out]
        refine qc.mono ?_
        rintro r w4 ⟨rfl, q, rfl⟩
        have hst := hst q
        clear qc
        go_wp2_with fail
        go_ret2
        refine ⟨hB3.trans (below_drewn _), ?_⟩
        unfold NmR
        rw [HN2.out]
        exact ⟨_, rfl⟩
      · obtain ⟨a, rfl⟩ : ∃ a, p1 = some a := by
          rcases HT.out with ⟨e, _⟩ | ⟨a, n', c', e, _⟩
          · cases e; omega
          · cases e; exact ⟨_, rfl⟩
        have hR : Rds w (.slice (some a) n c) t := by
          rcases HT.out with ⟨e, _⟩ | ⟨a, n', c', e, _, _, hr⟩
          · cases e
          · exact hr
        have hR3 := hR.below hB3
        have hRk := fun m c' (h : k + m ≤ n) => rds_part hR3 HNN.out k m c' h
        have hRw := hRk (n - k) (c - k) (by omega)
        rw [List.take_of_length_le (by rw [List.length_drop, ← HNN.out]; exact Nat.le_refl _)] at hRw
        have qc := Tryz.bytes_Cut_all (some (a.add k)) (some ⟨w2.heap.size, 0, none⟩) (n - k) (c - k) 2 2 (nums (t.drop k)) (nums [47, 10]) mx W3 (by rw [nums_len, List.length_drop, ← HNN.out]) rfl (nums_range _) (nums_range _) (bytesIn_of hRw (by rw [List.length_drop, ← HNN.out])) hsep (fun h => by cases h) (by omega) (by omega) (by decide) hmx
        rw [bytesOf_nums, bytesOf_nums] at qc
        have hroom := Lib.index_room (t.drop k) [47, 10]
        rw [List.length_drop, ← HNN.out] at hroom
        generalize Lib.index (t.drop k) [47, 10] = ix at qc HN2 hroom
        by_cases hix : 0 ≤ ix
        · obtain ⟨iN, rfl⟩ : ∃ i : Nat, ix = i := ⟨ix.toNat, by omega⟩
          have hroom := hroom hix
          have hcv1 : Lib.cutV (some (a.add k)) (n - k) (c - k) 2 (iN : Int) = .tuple #[.slice (some (a.add k)) iN (c - k), Lib.fromV (some (a.add k)) (n - k) (c - k) (iN + 2), .bool true] := by
            unfold Lib.cutV; rw [if_pos hix]; rfl
          rw [hcv1] at qc
          have hR4 := hRk iN (c - k) (by simp only [List.length_cons, List.length_nil] at hroom; omega)
          have hst : ∀ q, (convert 26 9 (.slice (some (a.add k)) iN (c - k))).run Tryz.prog (W3.drewN q) = .ok (.string (mk ((t.drop k).take iN))) (W3.drewN q) := fun q => rds_str (hR4.below (below_drewn _))
          rw [if_pos hix] at HN2
          generalize Lib.fromV (some (a.add k)) (n - k) (c - k) (iN + 2) = fv at qc
          clear hroom hcv1 hmx hsep HT hk hk' hnc hnn hR hR3 hRk hRw hR4 HNN
          go_wp2_with fail
          rw [← HW3.out]
          refine qc.mono ?_
          rintro r w4 ⟨rfl, q, rfl⟩
          have hst := hst q
          clear qc
          go_wp2_with fail
          go_ret2
          refine ⟨hB3.trans (below_drewn _), ?_⟩
          unfold NmR
          rw [HN2.out]
          rfl
        · have hcv1 : Lib.cutV (some (a.add k)) (n - k) (c - k) 2 ix = .tuple #[.slice (some (a.add k)) (n - k) (c - k), .slice none 0 0, .bool false] := by
            unfold Lib.cutV; rw [if_neg hix]
          rw [hcv1] at qc
          have hst : ∀ q, (convert 26 9 (.slice (some (a.add k)) (n - k) (c - k))).run Tryz.prog (W3.drewN q) = .ok (.string (mk (t.drop k))) (W3.drewN q) := fun q => rds_str (hRw.below (below_drewn _))
          rw [if_neg hix] at HN2
          clear hroom hcv1 hmx hsep HT hk hk' hnc hnn hR hR3 hRk hRw HNN
          go_wp2_with fail
          rw [← HW3.out]
          refine qc.mono ?_
          rintro r w4 ⟨rfl, q, rfl⟩
          have hst := hst q
          clear qc
          go_wp2_with fail
          go_ret2
          refine ⟨hB3.trans (below_drewn _), ?_⟩
          unfold NmR
          rw [HN2.out]
          exact ⟨_, rfl⟩
    · have g1 : (n : Int) < (k : Int) := by omega
      go_wp2_with fail
      go_ret2
      refine ⟨HB.out, ?_⟩
      unfold NmR
      rw [(HNM.out.2 k HV.out).1 (by rw [← HNN.out]; exact hk)]
      exact ⟨_, rfl⟩
  · have HV := hide' hv
    have HB := hide' (hbW.trans (hb2.mono hbW.size))
    clear hv hb2 qv q1
    go_wp2_with fail
    go_ret2
    refine ⟨HB.out, ?_⟩
    unfold NmR
    rw [HNM.out.1 HV.out]
    exact ⟨_, rfl⟩
end Go.Proofs.YtcijjigafcpcpaaGreatDoor
