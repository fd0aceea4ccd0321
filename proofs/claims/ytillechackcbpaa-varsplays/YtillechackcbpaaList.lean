/- The contract of List: the variables in a row of their own, rising. -/
import Derived.Test.YtillechackcbpaaAl
import Derived.Test.YtillechackcbpaaIter
import Derived.Deep.AppendLies
import Derived.OwnWalk
namespace Go.Proofs.Ytillechackcbpaa
open Go.RowKit Go.Maps Go.Sort

theorem before_lt : ∀ a b : Bs, bytesBefore a b = true ↔ a < b
  | [], [] => by simp [bytesBefore]
  | [], _ :: _ => by simp [bytesBefore]
  | _ :: _, [] => by simp [bytesBefore]
  | x :: r, y :: s => by
    rw [List.cons_lt_cons_iff]
    simp only [bytesBefore, Bool.or_eq_true, Bool.and_eq_true, decide_eq_true_eq, beq_iff_eq]
    rw [before_lt r s]
theorem le_before {a b : Bs} (h : a ≤ b) : a = b ∨ bytesBefore a b = true := by
  rcases before_total a b with h1 | h1 | h1
  · exact .inr h1
  · exact .inl h1
  · exact absurd ((before_lt b a).1 h1) (List.not_lt.2 h)
/-- two rising lists of the same members are one -/
theorem rising_ext : ∀ l m : List Bs, l.Pairwise (fun a b => bytesBefore a b = true) → m.Pairwise (fun a b => bytesBefore a b = true) → (∀ x, x ∈ l ↔ x ∈ m) → l = m
  | [], [], _, _, _ => rfl
  | [], y :: s, _, _, h => absurd ((h y).2 List.mem_cons_self) (by simp)
  | x :: r, [], _, _, h => absurd ((h x).1 List.mem_cons_self) (by simp)
  | x :: r, y :: s, hl, hm, h => by
    obtain ⟨l1, l2⟩ := List.pairwise_cons.1 hl
    obtain ⟨m1, m2⟩ := List.pairwise_cons.1 hm
    have e : x = y := by
      rcases List.mem_cons.1 ((h x).1 List.mem_cons_self) with e | e
      · exact e
      · rcases List.mem_cons.1 ((h y).2 List.mem_cons_self) with e2 | e2
        · exact e2.symm
        · have h1 := m1 x e
          have h2 := l1 y e2
          rw [before_asymm h1] at h2
          cases h2
    subst e
    rw [rising_ext r s l2 m2 fun z => ?_]
    constructor
    · intro hz
      rcases List.mem_cons.1 ((h z).1 (List.mem_cons_of_mem _ hz)) with e | e
      · exact absurd e.symm (before_ne (l1 z hz))
      · exact e
    · intro hz
      rcases List.mem_cons.1 ((h z).2 (List.mem_cons_of_mem _ hz)) with e | e
      · exact absurd e.symm (before_ne (m1 z hz))
      · exact e
theorem sorted_keys {K ss : List Bs} (hK : K.Pairwise (fun a b => bytesBefore a b = true)) (hp : ss.Perm K) : ss.mergeSort (fun x y => decide (x ≤ y)) = K := by
  have hs : (ss.mergeSort (fun x y => decide (x ≤ y))).Perm K := (List.mergeSort_perm ss _).trans hp
  have hle : (ss.mergeSort (fun x y => decide (x ≤ y))).Pairwise (fun a b => decide (a ≤ b) = true) :=
    List.pairwise_mergeSort (fun a b c h1 h2 => by simp only [decide_eq_true_eq] at *; exact List.le_trans h1 h2) (fun a b => by simp only [Bool.or_eq_true, decide_eq_true_eq]; exact List.le_total a b) ss
  have hnd : (ss.mergeSort (fun x y => decide (x ≤ y))).Nodup := hs.nodup_iff.2 (hK.imp fun h => before_ne h)
  refine rising_ext _ _ ?_ hK fun x => hs.mem_iff
  have := List.Pairwise.and hle hnd
  exact this.imp fun h => (le_before (of_decide_eq_true h.1)).resolve_left h.2
theorem datum_keys {H : Type} (L : Vs) : strKeys (datum L : DataW H) = L.map (·.1) := by
  show (L.map (fun e => ((.string e.1, dV e.2) : Lit × DataW H))).map (fun p => strOf p.1) = _
  rw [List.map_map]
  rfl
/-- the cells of variables in a row -/
def cellsV (v : Vr) : List Value := [.string (mk v.name), .string (mk v.value), .int .i64 v.flav, .int .i64 v.origin, .int .i64 v.exp]
def flatV (vs : List Vr) : List Value := vs.flatMap cellsV
theorem flat_len (ns : List Vr) : (flatV ns).length = ns.length * 5 := by
  induction ns with
  | nil => rfl
  | cons n r ih =>
    have : flatV (n :: r) = cellsV n ++ flatV r := rfl
    rw [this, List.length_append, ih, List.length_cons]
    show 5 + _ = _
    omega
theorem flat_at : ∀ (ns : List Vr) (i r : Nat) (n : Vr), ns[i]? = some n → r < 5 → (flatV ns)[i * 5 + r]? = (cellsV n)[r]?
  | [], i, r, n, h, _ => by simp at h
  | m :: s, 0, r, n, h, hr => by
    obtain rfl : m = n := by simpa using h
    have : flatV (m :: s) = cellsV m ++ flatV s := rfl
    rw [this, Nat.zero_mul, Nat.zero_add, List.getElem?_append_left (by show r < 5; exact hr)]
  | m :: s, i + 1, r, n, h, hr => by
    have : flatV (m :: s) = cellsV m ++ flatV s := rfl
    rw [this, List.getElem?_append_right (by show 5 ≤ _; omega)]
    have e : (i + 1) * 5 + r - (cellsV m).length = i * 5 + r := by show (i + 1) * 5 + r - 5 = _; omega
    rw [e]
    exact flat_at s i r n (by simpa using h) hr
theorem flat_snoc (vs : List Vr) (v : Vr) : flatV (vs ++ [v]) = flatV vs ++ cellsV v := by
  unfold flatV; rw [List.flatMap_append]; simp
/-- a row of variables, in a block from b0 on -/
def RowV (w : World) (b0 : Nat) (v : Value) (vs : List Vr) : Prop := w.ownsRow b0 36 5 v vs.length (flatV vs)
theorem RowV.below {w w' : World} {b0 : Nat} {v : Value} {vs : List Vr} (h : RowV w b0 v vs) (hb : Below w.heap.size w w') : RowV w' b0 v vs := by
  refine ⟨h.1, ?_⟩
  rcases h.2 with h1 | ⟨g, cap, cur, rfl, h2, hg, r⟩
  · exact .inl h1
  · exact .inr ⟨g, cap, cur, rfl, h2, (hb.block g (lt_of_block hg)).trans hg, r⟩
theorem info36 : (Try.prog.info? 36).map (fun i : TypeInfo => (i.zero, i.size, i.bytes)) = some (some (.agg #[.string ⟨#[]⟩, .string ⟨#[]⟩, .int .i64 0, .int .i64 0, .int .i64 0]), 5, 56) := by kernel_rfl

theorem keys_any (m : Option Nat) (W : World) : Calls Try.prog 25 #[.map m] W fun e w' => e = .returned (.func (.func 47) #[] #[.pointer (some ⟨W.heap.size, 0, none⟩)]) ∧ w' = W.alloc (.cells #[.map m] 50) := callsIn_wide.1 (Try.maps_Keys_25 m W)
theorem sorted_any (m : Option Nat) (L : Vs) (W : World) (h : MpO W m L) (hs : Srt L) (hc : L.length ≤ 1000) :
    Calls Try.prog 24 #[.func (.func 47) #[] #[.pointer (some ⟨W.heap.size, 0, none⟩)]] (W.alloc (.cells #[.map m] 50)) fun e w' => ∃ v, e = .returned v ∧
      w'.ownsRow (W.alloc (.cells #[.map m] 50)).heap.size 9 1 v L.length ((L.map (·.1)).map encStr) ∧ (L = [] → v = .slice none 0 0) ∧ Below (W.alloc (.cells #[.map m] 50)).heap.size (W.alloc (.cells #[.map m] 50)) w' := by
  cases m with
  | none =>
    have hL : L = [] := h
    subst hL
    refine (callsIn_wide.1 (Try.slices_Sorted_keys_nil_24_25 W)).mono ?_
    rintro r w' ⟨v, ss, rfl, rfl, h1, h2, h3⟩
    exact ⟨v, rfl, by simpa using h1, fun _ => h2.2 rfl, h3⟩
  | some M =>
    refine (callsIn_wide.1 (Try.slices_Sorted_keys_24_25 (H := Unit) M L.length (datum L) varElem W h (by rw [datum_size]; unfold maxLen; omega) (by rw [datum_size]; omega))).mono ?_
    rintro r w' ⟨v, ss, rfl, hp, h1, h2, h3⟩
    rw [datum_keys] at hp
    have hl : ss.length = L.length := by rw [hp.length_eq, List.length_map]
    rw [sorted_keys (List.pairwise_map.2 hs) hp, hl] at h1
    exact ⟨v, rfl, h1, fun e => h2.2 (by subst e; exact List.perm_nil.1 (by simpa using hp)), h3⟩
theorem news_cells (w : World) (n v : ByteArray) (f o e : Int) : ∀ j u, ([.string n, .string v, .int .i64 f, .int .i64 o, .int .i64 e] : List Value)[j]? = some u → (w.alloc (.cells #[.string n, .string v, .int .i64 f, .int .i64 o, .int .i64 e] 36)).cell? ((⟨w.heap.size, 0, none⟩ : Addr).add j) = some u := by
  intro j u hj
  rw [add_zero, Lib.cell_of_heap (heap_alloc_new _ _)]
  simpa using hj
theorem news_one (n v : ByteArray) (f o e : Int) : ∀ u ∈ ([.string n, .string v, .int .i64 f, .int .i64 o, .int .i64 e] : List Value), u.oneCell' = true := by
  intro u hu
  simp only [List.mem_cons, List.not_mem_nil, or_false] at hu
  rcases hu with rfl | rfl | rfl | rfl | rfl <;> rfl
theorem below_none {w w' : World} (h : w.grownBy w' none) : Below w.heap.size w w' := ⟨h.os, h.tape, h.output, h.size, fun k hk => h.block k hk (by simp)⟩
theorem getV_at {L : Vs} (h : Srt L) {k : Nat} {e : Bs × Vr} (he : L[k]? = some e) : getV L e.1 = e.2 := by
  unfold getV
  rw [h.fnd (List.mem_of_getElem? he)]
  rfl
set_option maxRecDepth 100000 in
set_option maxHeartbeats 2000000 in
theorem list_any (A : Nat) (m : Option Nat) (L : Vs) (w : World) (h : St w A m L) :
    Calls Try.prog 11 #[.pointer (some ⟨A, 0, none⟩)] w fun r w' => ∃ v, r = .returned v ∧ RowV w' w.heap.size v (L.map (·.2)) ∧ Below w.heap.size w w' := by
  have hc := h.cnt
  have H := hide' h
  have c0 := h.sb.c0
  have hl := fun ty => h.mp.len ty
  obtain ⟨inf, hi, hz0, hz1, hz2⟩ := info_parts info36
  clear h
  go_enter Try.func11, Try.ntmps11
  go_wp2_with fail
  refine (orEmpty_any A _).mono ?_
  rintro r w0 ⟨rfl, rfl⟩
  go_wp2_with (at_make; refine wpList_make_own _ rfl _ _ _ rfl w0.heap.size 36 inf _ 5 Try.underlying28 hi hz0 hz1 .i64 .i64 _ L.length rfl rfl rfl (by rw [hz2]; omega) (by unfold maxLen; omega) (Nat.le_refl _) ?_; intro w1 hown1 hgr1; have c1 := (H.out.below (below_none hgr1)).sb.c0)
  refine (keys_any m _).mono ?_
  rintro r w2 ⟨rfl, rfl⟩
  have hB1 : Below w0.heap.size w0 w1 := below_none hgr1
  have hs1 := H.out.below hB1
  have q := sorted_any m L w1 hs1.mp hs1.srt hc
  go_wp2_with fail
  refine q.mono ?_
  rintro r w3 ⟨vk, rfl, hk1, hk2, hk3⟩
  have hB3' : Below w1.heap.size w1 w3 := (below_alloc (Below.refl _ _) (Nat.le_refl _) _).trans (hk3.mono (by simp))
  have hB3 : Below w0.heap.size w0 w3 := hB1.trans (hB3'.mono hB1.size)
  obtain ⟨ak, ck, rfl, hak⟩ : ∃ ak ck, vk = .slice ak L.length ck ∧ (0 < L.length → ∃ g, ak = some ⟨g, 0, none⟩ ∧ w1.heap.size < g ∧ g < w3.heap.size ∧ L.length ≤ ck ∧ ∀ (j : Nat) (e : Bs × Vr), L[j]? = some e → w3.cell? ⟨g, j, none⟩ = some (.string (mk e.1))) := by
    by_cases hL : L = []
    · subst hL
      exact ⟨none, 0, hk2 rfl, fun h => absurd h (by simp)⟩
    · have hpos : 0 < L.length := List.length_pos_iff.2 hL
      obtain ⟨gk, cap, rfl, hg1, hg2⟩ := hk1.form hpos
      rw [World.size_alloc] at hg1
      refine ⟨_, cap, rfl, fun _ => ⟨gk, rfl, by omega, hg2, ?_, fun j e hj => ?_⟩⟩
      · rcases hk1.2 with ⟨e3, _⟩ | ⟨g, cap', cur, e3, _, _, r1, _⟩
        · cases e3
        · cases e3; exact r1
      · have := hk1.cells (g := gk) rfl j (encStr e.1) (by rw [List.getElem?_map, List.getElem?_map, hj]; rfl)
        rw [add_zero] at this
        exact this
  have hown3 : RowV w3 w0.heap.size (.slice (some ⟨w0.heap.size, 0, none⟩) 0 L.length) [] := RowV.below hown1 hB3'
  have hw3 : w0.heap.size < w3.heap.size := by
    rcases hown3.2 with ⟨e3, _⟩ | ⟨g, cap', cur, e3, _, hg, _⟩
    · cases e3
    · cases e3; exact lt_of_block hg
  have hg1' : w0.heap.size < w1.heap.size := by
    rcases hown1.2 with ⟨e3, _⟩ | ⟨g, cap', cur, e3, _, hg, _⟩
    · cases e3
    · cases e3; exact lt_of_block hg
  have hL0 : ((L.length : Nat) : Int) ≤ 1000 := by omega
  clear q hk1 hk2 hk3 hown1 hgr1 hs1 hB1 c0 c1 hl hB3'
  go_wp2
  go_loopw [3, 5, 23] (fun l _ i wr => ∃ (k : Nat), k ≤ L.length ∧ i = .int .i64 k ∧ l = .slice (some ⟨w0.heap.size, 0, none⟩) k L.length ∧ RowV wr w0.heap.size (.slice (some ⟨w0.heap.size, 0, none⟩) k L.length) ((L.take k).map (·.2)) ∧ Turn (fun i => i = w0.heap.size) w3 wr) (fun _ _ i _ => L.length - (intOf i).toNat)
  case atStart => exact ⟨0, Nat.zero_le _, rfl, rfl, hown3, Turn.refl _ _⟩
  case round =>
    obtain ⟨k, hk, rfl, rfl, hown, htn⟩ := hrel
    by_cases hkl : k < L.length
    · obtain ⟨gk, rfl, g1, g2, g3, g4⟩ := hak (by omega)
      have k1 : (k : Int) < L.length := by omega
      obtain ⟨e, he⟩ : ∃ e, L[k]? = some e := ⟨_, List.getElem?_eq_getElem hkl⟩
      have hBr : Below w0.heap.size w0 wr := hB3.trans (htn.below hB3.size (fun i hi => by omega))
      have hSr := H.out.below hBr
      have hkr : wr.cell? ⟨gk, k, none⟩ = some (.string (mk e.1)) := (World.cell?_of_block (a := ⟨gk, k, none⟩) (htn.block gk g2 (by omega))).trans (g4 k e he)
      have f0 := hSr.sb.c0
      have hlen := H.out.len e (List.mem_of_getElem? he)
      have hnm := H.out.nm e (List.mem_of_getElem? he)
      have hlk := hSr.mp.look e.1 (by unfold maxLen; omega)
      rw [getV_at H.out.srt he] at hlk
      have qo := fun W => own_any e.2 W (by rw [hnm]; omega) (by omega)
      have htk : (L.take (k + 1)).map (·.2) = (L.take k).map (·.2) ++ [e.2] := by rw [List.take_add_one, he, List.map_append]; rfl
      have hkt : ((L.take k).map (·.2)).length = k := by rw [List.length_map, List.length_take]; omega
      obtain ⟨en, ⟨xn, xv, xf, xo, xe⟩⟩ := e
      dsimp only [vV] at qo hlk hkr htk
      have HT := hide' htk
      clear htk he hnm hlen hSr
      generalize hvs : (L.take k).map (·.2) = vs at hown hkt HT
      clear hvs
      have hown' := hown
      unfold RowV at hown'
      rw [hkt] at hown'
      have HK := hide' hkt
      have HN := hide' htn
      have hww := htn.size
      clear hown hBr htn hkt hak g4
      go_wp2_with fail
      refine (qo _).mono ?_
      rintro r w4 ⟨rfl, hb4⟩
      have hown4 : (w4.alloc (.cells #[.string (mk xn), .string (mk xv), .int .i64 xf, .int .i64 xo, .int .i64 xe] 36)).ownsRow w0.heap.size 36 5 (.slice (some ⟨w0.heap.size, 0, none⟩) k L.length) k (flatV vs) := by
        refine ⟨hown'.1, ?_⟩
        rcases hown'.2 with h1 | ⟨g, cap, cur, e1, h2, hg, r⟩
        · exact .inl h1
        · exact .inr ⟨g, cap, cur, e1, h2, (Below.heap_alloc _ _ _ (Nat.lt_of_lt_of_le (lt_of_block hg) hb4.size)).trans ((hb4.block g (lt_of_block hg)).trans hg), r⟩
      have HO := hide' hown4
      have hs4 := hb4.size
      have HB4 := hide' hb4
      have nc := hide' (news_cells w4 (mk xn) (mk xv) xf xo xe)
      have no := hide' (news_one (mk xn) (mk xv) xf xo xe)
      clear hown' hown4 hb4 qo hlk
      go_wp2_with (at_builtin; refine wpList_append_fits _ rfl _ _ _ rfl w0.heap.size 36 inf 5 Try.underlying28 hi hz1 w0.heap.size k L.length (flatV vs) rfl HO.out ⟨w4.heap.size, 0, none⟩ 1 1 [.string (mk xn), .string (mk xv), .int .i64 xf, .int .i64 xo, .int .i64 xe] rfl rfl nc.out no.out (by omega) ?_; intro w6 hown6 hgr6)
      refine ⟨⟨k + 1, by omega, by simp, rfl, ?_, ?_⟩, by simp [intOf]; omega⟩
      · unfold RowV
        rw [HT.out, List.length_append, HK.out, flat_snoc]
        exact hown6
      · exact (HN.out.trans' ((Turn.of_below HB4.out).alloc _)).trans' (Turn.of_grown hgr6 fun k e => (Option.some.inj e).symm)
    · obtain rfl : k = L.length := by omega
      have k1 : ¬ (L.length : Int) < L.length := by omega
      rw [List.take_length] at hown
      have HO := hide' hown
      have HB : Hid (Below w0.heap.size w0 wr) := hB3.trans (htn.below hB3.size (fun i hi => by omega))
      clear hown htn hak
      go_wp2
      go_ret
      exact ⟨_, rfl, HO.out, HB.out⟩
end Go.Proofs.Ytillechackcbpaa
