/- The contract of anvilref1.Sort: a list of its own of the texts of its list, rising, each once. The contract of the reference's List. -/
import Derived.Test.YtpbfhbnkalambaaGreatDoorZu
import Derived.Sort.Walk0
import Derived.Laws.CopyOwn
import Derived.Deep.QuietTactic
import Derived.BigQuiet
import Derived.Maps.AppendAt
import Derived.Shelf.RegionOpen
import Derived.Test.YtpbfhbnkalambaaGreatDoorZv
import Derived.Test.YtpbfhbnkalambaaGreatDoorZq
namespace Go.Proofs.YtpbfhbnkalambaaGreatDoor
open Go.RowKit Go.Shelf

/-- rising, each once -/
def Up (l : List Bs) : Prop := l.Pairwise (fun a b => a < b)

theorem up_unique (A : List Bs) : ∀ B : List Bs, Up A → Up B → (∀ x, x ∈ A ↔ x ∈ B) → A = B := by
  induction A with
  | nil =>
    intro B _ _ h
    cases B with
    | nil => rfl
    | cons b B => exact absurd ((h b).2 (by simp)) (by simp)
  | cons a A ih =>
    intro B hA hB h
    cases B with
    | nil => exact absurd ((h a).1 (by simp)) (by simp)
    | cons b B =>
      have hA' := List.pairwise_cons.1 hA
      have hB' := List.pairwise_cons.1 hB
      have e : a = b := by
        rcases List.mem_cons.1 ((h a).1 (by simp)) with e | h1
        · exact e
        · rcases List.mem_cons.1 ((h b).2 (by simp)) with e | h2
          · exact e.symm
          · exact absurd (List.lt_trans (hB'.1 a h1) (hA'.1 b h2)) (List.lt_irrefl _)
      subst e
      rw [ih B hA'.2 hB'.2 fun x => ?_]
      constructor
      · intro hx
        rcases List.mem_cons.1 ((h x).1 (List.mem_cons_of_mem _ hx)) with e | h1
        · exact absurd (e ▸ hA'.1 x hx) (List.lt_irrefl _)
        · exact h1
      · intro hx
        rcases List.mem_cons.1 ((h x).2 (List.mem_cons_of_mem _ hx)) with e | h1
        · exact absurd (e ▸ hB'.1 x hx) (List.lt_irrefl _)
        · exact h1

theorem lt_of_le_ne {a b : Bs} (h : a ≤ b) (hn : a ≠ b) : a < b := by
  by_cases hb : b ≤ a
  · exact absurd (List.le_antisymm h hb) hn
  · exact List.not_le.1 hb

/-- a text put into a rising list, at the place where it belongs -/
theorem up_insert (A : List Bs) (x : Bs) (p : Nat) (hA : Up A) (h1 : ∀ i (h : i < A.length), i < p → A[i] < x) (h2 : ∀ i (h : i < A.length), p ≤ i → x < A[i]) : Up (A.take p ++ x :: A.drop p) := by
  refine List.pairwise_append.2 ⟨hA.take, ?_, ?_⟩
  · refine List.pairwise_cons.2 ⟨fun y hy => ?_, hA.drop⟩
    obtain ⟨j, hj, rfl⟩ := List.getElem_of_mem hy
    rw [List.getElem_drop]
    exact h2 _ _ (by omega)
  · intro y hy z hz
    obtain ⟨j, hj, rfl⟩ := List.getElem_of_mem hy
    rw [List.getElem_take]
    rw [List.length_take] at hj
    have hy' := h1 j (by omega) (by omega)
    rcases List.mem_cons.1 hz with rfl | hz
    · exact hy'
    · obtain ⟨k, hk, rfl⟩ := List.getElem_of_mem hz
      rw [List.getElem_drop]
      exact List.lt_trans hy' (h2 _ _ (by omega))
theorem mem_insert (A : List Bs) (x y : Bs) (p : Nat) : y ∈ A.take p ++ x :: A.drop p ↔ y = x ∨ y ∈ A := by
  conv => rhs; rw [← List.take_append_drop p A]
  simp only [List.mem_append, List.mem_cons]
  constructor
  · rintro (h | h | h)
    · exact .inr (.inl h)
    · exact .inl h
    · exact .inr (.inr h)
  · rintro (h | h | h)
    · exact .inr (.inl h)
    · exact .inl h
    · exact .inr (.inr h)
def ba (l : Bs) : ByteArray := ⟨l.toArray⟩
theorem ba_tl (x : ByteArray) : ba (tl x) = x := by obtain ⟨⟨a⟩⟩ := x; rfl
theorem ba_of (x : ByteArray) : (⟨x.data.toList.toArray⟩ : ByteArray) = x := by obtain ⟨⟨a⟩⟩ := x; rfl
theorem srow_form {W : World} {base : Nat} {e : TypeId} {m n : Nat} {v : Value} {xs : List Value} (h : W.ownsRow base e m v n xs) : ∃ a c, v = .slice a n c := by
  rcases h.2 with ⟨rfl, rfl⟩ | ⟨g, cap, _, rfl, _⟩
  · exact ⟨none, 0, rfl⟩
  · exact ⟨_, cap, rfl⟩
theorem sapp_below {w W w1 : World} {base : Nat} {v : Value} {k : Nat} {xs : List Value} {tmp : Obj} (hB : Below base w W) (hbase : base ≤ W.heap.size) (hrow : W.ownsRow base 9 1 v k xs) (hgrow : (W.alloc tmp).grownBy w1 v.ownBlock) : Below base w w1 := by
  refine (hB.alloc hbase tmp).grown hgrow (by simp; omega) fun j ej => ?_
  rcases hrow.2 with ⟨rfl, _⟩ | ⟨g, cap, cur, rfl, hb, _, _⟩
  · simp [Value.ownBlock] at ej
  · obtain rfl : g = j := by simpa [Value.ownBlock] using ej
    exact hb

/-- below p all is smaller than x, from q on nothing is -/
def Mid (O : List ByteArray) (x : Bs) (p q : Nat) : Prop := (∀ i, i < O.length → i < p → tl (O.getD i ⟨#[]⟩) < x) ∧ (∀ i, i < O.length → q ≤ i → x ≤ tl (O.getD i ⟨#[]⟩))
theorem up_lt {O : List ByteArray} (h : Up (O.map tl)) (i j : Nat) (hij : i < j) (hj : j < O.length) : tl (O.getD i ⟨#[]⟩) < tl (O.getD j ⟨#[]⟩) := by
  have := List.pairwise_iff_getElem.1 h i j (by simp; omega) (by simpa using hj) hij
  rw [List.getElem_map, List.getElem_map] at this
  rw [List.getD_eq_getElem?_getD, List.getD_eq_getElem?_getD, List.getElem?_eq_getElem (by omega), List.getElem?_eq_getElem hj]
  exact this
theorem mid_lo {O : List ByteArray} {x : Bs} {p q m : Nat} (hU : Up (O.map tl)) (h : Mid O x p q) (hm : m < O.length) (hlt : tl (O.getD m ⟨#[]⟩) < x) : Mid O x (m + 1) q := by
  refine ⟨fun i hi him => ?_, h.2⟩
  by_cases e : i = m
  · subst e; exact hlt
  · exact List.lt_trans (up_lt hU i m (by omega) hm) hlt
theorem mid_hi {O : List ByteArray} {x : Bs} {p q m : Nat} (hU : Up (O.map tl)) (h : Mid O x p q) (hge : ¬ tl (O.getD m ⟨#[]⟩) < x) : Mid O x p m := by
  refine ⟨h.1, fun i hi him => ?_⟩
  have h0 := List.not_lt.1 hge
  by_cases e : i = m
  · subst e; exact h0
  · exact List.le_trans h0 (List.le_of_lt (up_lt hU m i (by omega) hi))
theorem mid_up {O : List ByteArray} {x : ByteArray} {p : Nat} (hU : Up (O.map tl)) (h : Mid O (tl x) p p) (hne : p < O.length → O.getD p ⟨#[]⟩ ≠ x) : Up ((O.take p ++ x :: O.drop p).map tl) := by
  rw [List.map_append, List.map_cons, List.map_take, List.map_drop]
  have hget : ∀ i (hi : i < (O.map tl).length), (O.map tl)[i] = tl (O.getD i ⟨#[]⟩) := fun i hi => by
    rw [List.length_map] at hi
    rw [List.getElem_map, List.getD_eq_getElem?_getD, List.getElem?_eq_getElem hi]
    rfl
  refine up_insert _ _ p hU (fun i hi hip => ?_) (fun i hi hip => ?_)
  · rw [hget i hi]; exact h.1 i (by simpa using hi) hip
  · rw [hget i hi]
    have hi' : i < O.length := by simpa using hi
    have hx := h.2 i hi' hip
    by_cases e : i = p
    · subst e
      refine lt_of_le_ne hx fun e => hne hi' ?_
      have := congrArg ba e
      rw [ba_tl, ba_tl] at this
      exact this.symm
    · exact List.lt_of_le_of_lt (h.2 p (by omega) (Nat.le_refl _)) (up_lt hU p i (by omega) hi')
theorem smem_ins {O : List ByteArray} {x : ByteArray} {p : Nat} (y : Bs) : y ∈ (O.take p ++ x :: O.drop p).map tl ↔ y = tl x ∨ y ∈ O.map tl := by
  rw [List.map_append, List.map_cons, List.map_take, List.map_drop]
  exact mem_insert _ _ _ _

/-- the cells of the row, with the texts from p on moved up by one and x laid at p -/
theorem ins_cells (cur : List Value) (O : List ByteArray) (x : ByteArray) (p : Nat) (hp : p ≤ O.length) (h : cur.take (O.length + 1) = O.map Value.string ++ [.string ⟨#[]⟩]) :
    ((splice cur (p + 1) ((O.drop p).map Value.string)).set p (.string x)).take (O.length + 1) = (O.take p ++ x :: O.drop p).map Value.string := by
  have hc : cur = (O.map Value.string ++ [.string ⟨#[]⟩]) ++ cur.drop (O.length + 1) := by rw [← h, List.take_append_drop]
  generalize cur.drop (O.length + 1) = rest at hc
  clear h
  subst hc
  have hO : O = O.take p ++ O.drop p := (List.take_append_drop p O).symm
  generalize hA : O.take p = A at hO
  generalize hB : O.drop p = B at hO
  have hAl : A.length = p := by rw [← hA, List.length_take]; omega
  clear hA hB hp
  subst hO
  unfold splice
  simp only [List.map_append, List.length_append, List.length_map]
  apply List.ext_getElem?
  intro i
  rw [List.getElem?_take]
  by_cases hi : i < A.length + B.length + 1
  · rw [if_pos hi, List.getElem?_set]
    by_cases hip : p = i
    · subst hip
      rw [if_pos rfl, if_pos (by simp; omega), List.getElem?_append_right (by simp [hAl])]
      simp [hAl]
    · rw [if_neg hip]
      by_cases hlo : i < p
      · rw [List.getElem?_append_left (by simp; omega), List.getElem?_take, if_pos (by omega), List.getElem?_append_left (by simp; omega), List.getElem?_append_left (by simp; omega), List.getElem?_append_left (by simp; omega), List.getElem?_append_left (by simp; omega)]
      · have hl1 : (List.take (p + 1) (A.map Value.string ++ B.map Value.string ++ [Value.string ⟨#[]⟩] ++ rest)).length = p + 1 := by simp; omega
        rw [List.getElem?_append_right (by rw [hl1]; omega), hl1, List.getElem?_append_left (by simp; omega), List.getElem?_append_right (by simp; omega), List.length_map, List.map_cons, show i - A.length = (i - (p + 1)) + 1 by omega, List.getElem?_cons_succ]
  · rw [if_neg hi, List.getElem?_eq_none]
    simp
    omega
theorem srow_cells {W : World} {base : Nat} {a : Option Addr} {c : Nat} {O : List ByteArray} (h : W.ownsRow base 9 1 (.slice a O.length c) O.length (O.map Value.string)) (h0 : 0 < O.length) :
    ∃ g, a = some ⟨g, 0, none⟩ ∧ O.length ≤ c ∧ ∀ j, j < O.length → W.cell? ⟨g, j, none⟩ = some (.string (O.getD j ⟨#[]⟩)) := by
  rcases h.2 with ⟨_, h1⟩ | ⟨g, cap, cur, hv, hbase, hb, h1, h2, h3, h4⟩
  · omega
  · cases hv
    refine ⟨g, rfl, h1, fun j hj => ?_⟩
    have := h.cells (g := g) rfl j (.string (O.getD j ⟨#[]⟩)) (by rw [List.getElem?_map, List.getElem?_eq_getElem hj, List.getD_eq_getElem?_getD, List.getElem?_eq_getElem hj]; rfl)
    have e : (⟨g, 0, none⟩ : Addr).add j = ⟨g, 0 + j, none⟩ := by unfold Addr.add; split <;> simp_all
    rw [e, Nat.zero_add] at this
    exact this

/-- what the list so far is -/
def RsO (L O : List ByteArray) (k : Nat) : Prop := Up (O.map tl) ∧ ∀ y, y ∈ O.map tl ↔ y ∈ (L.take k).map tl

theorem sown_form {W : World} {base m : Nat} {v : Value} {xs : List Value} (h : W.ownsRow base 9 1 v m xs) (hm : 0 < m) :
    ∃ (g c : Nat) (cur : List Value), v = .slice (some ⟨g, 0, none⟩) m c ∧ base ≤ g ∧ W.heap[g]? = some (.cells cur.toArray 9 (0, 0)) ∧ m ≤ c ∧ c ≤ maxLen ∧ cur.length = c ∧ cur.take m = xs := by
  rcases h.2 with ⟨_, h1⟩ | ⟨g, cap, cur, hv, hbase, hb, h1, h2, h3, h4⟩
  · omega
  · exact ⟨g, cap, cur.toList, hv, hbase, by simpa using hb, h1, h2, by simpa using h3, by simpa using h4⟩
theorem scells_at {W : World} {g t : Nat} {cur : List Value} (h : W.heap[g]? = some (.cells cur.toArray t (0, 0))) (j : Nat) : W.cell? ⟨g, j, none⟩ = cur[j]? := by
  simp [World.cell?, h]

/-- what copy(out[p+1:], out[p:]) asks -/
theorem copy_facts {V : World} {g c m p : Nat} {cur : List Value} {O : List ByteArray} (h : V.heap[g]? = some (.cells cur.toArray 9 (0, 0))) (hm : m = O.length + 1) (hp : p ≤ O.length) (hmc : m ≤ c) (hl : cur.length = c) (ht : cur.take m = O.map Value.string ++ [.string ⟨#[]⟩]) (X : List Value) (hX : X = (O.drop p).map Value.string) :
    ∃ A : Addr, (if c = p + 1 then some (⟨g, 0, none⟩ : Addr) else some ⟨g, p + 1, none⟩) = some A ∧ Hid (X.length = Nat.min (m - p) (m - (p + 1))) ∧ Hid (0 < X.length → some A = some ⟨g, p + 1, none⟩ ∧ ∃ ad, some (⟨g, p, none⟩ : Addr) = some ad ∧ ∀ j v, X[j]? = some v → V.cell? (ad.add j) = some v) ∧ Hid (p + 1 + X.length ≤ cur.length) ∧ Hid (∀ v ∈ X, v.oneCell' = true) := by
  subst hm
  have hXl : X.length = O.length - p := by rw [hX]; simp
  have hmin : X.length = Nat.min (O.length + 1 - p) (O.length + 1 - (p + 1)) := by
    rw [hXl]
    have : Nat.min (O.length + 1 - p) (O.length + 1 - (p + 1)) = O.length + 1 - (p + 1) := Nat.min_eq_right (by omega)
    omega
  have hone : ∀ v ∈ X, v.oneCell' = true := by
    intro v hv
    rw [hX] at hv
    obtain ⟨y, _, rfl⟩ := List.mem_map.1 hv
    rfl
  have hsrc : ∀ j v, X[j]? = some v → V.cell? ((⟨g, p, none⟩ : Addr).add j) = some v := by
    intro j v hv
    have hj : j < X.length := (List.getElem?_eq_some_iff.1 hv).1
    rw [Addr.add_lit, scells_at h]
    have : (cur.take (O.length + 1))[p + j]? = some v := by
      rw [ht, List.getElem?_append_left (by simp; omega), ← hv, hX, List.map_drop, List.getElem?_drop]
    rw [List.getElem?_take, if_pos (by omega)] at this
    exact this
  by_cases hc : c = p + 1
  · refine ⟨⟨g, 0, none⟩, by simp [hc], hmin, fun h0 => ?_, ?_, hone⟩
    · omega
    · show _ ≤ _; omega
  · refine ⟨⟨g, p + 1, none⟩, by simp [hc], hmin, fun h0 => ⟨rfl, _, rfl, hsrc⟩, ?_, hone⟩
    show _ ≤ _; omega

theorem ins_len (O : List ByteArray) (x : ByteArray) (p : Nat) (hp : p ≤ O.length) : (O.take p ++ x :: O.drop p).length = O.length + 1 := by simp; omega
theorem splice_len {cur : List Value} {c m p : Nat} {O : List ByteArray} {X : List Value} (hm : m = O.length + 1) (hp : p ≤ O.length) (hmc : m ≤ c) (hl : cur.length = c) (hX : X = (O.drop p).map Value.string) : (splice cur (p + 1) X).length = c := by
  rw [length_splice _ _ _ (by rw [hX]; simp; omega)]; exact hl
/-- the row behind out[p] = x -/
theorem snew_row {V : World} {base g c m p : Nat} {cur : List Value} {O : List ByteArray} {x : ByteArray} {X : List Value} (h : V.heap[g]? = some (.cells (splice cur (p + 1) X).toArray 9 (0, 0))) (hbg : base ≤ g) (hm : m = O.length + 1) (hp : p ≤ O.length) (hmc : m ≤ c) (hcm : c ≤ maxLen) (hl : cur.length = c) (ht : cur.take m = O.map Value.string ++ [.string ⟨#[]⟩]) (hX : X = (O.drop p).map Value.string) :
    (V.setCell ⟨g, p, none⟩ (.string x)).ownsRow base 9 1 (.slice (some ⟨g, 0, none⟩) m c) (O.take p ++ x :: O.drop p).length ((O.take p ++ x :: O.drop p).map Value.string) := by
  have hsl := splice_len hm hp hmc hl hX
  rw [ins_len O x p hp, ← hm]
  refine ⟨by rw [List.length_map, ins_len O x p hp]; omega, .inr ⟨g, c, _, rfl, hbg, Go.heap_setCell_same _ _ _ _ _ _ h, hmc, hcm, by simpa using hsl, ?_⟩⟩
  subst hm
  subst hX
  have := ins_cells cur O x p hp ht
  simpa using this

theorem stake_mem (L : List ByteArray) (k : Nat) (h : k < L.length) (y : Bs) : y ∈ (L.take (k + 1)).map tl ↔ y = tl (L.getD k ⟨#[]⟩) ∨ y ∈ (L.take k).map tl := by
  rw [List.take_succ_eq_append_getElem h, List.map_append, List.mem_append, List.getD_eq_getElem?_getD, List.getElem?_eq_getElem h]
  simp [or_comm]
theorem rso_same {L O : List ByteArray} {k p : Nat} (h : RsO L O k) (hk : k < L.length) (hp : p < O.length) (he : O.getD p ⟨#[]⟩ = L.getD k ⟨#[]⟩) : RsO L O (k + 1) := by
  refine ⟨h.1, fun y => ?_⟩
  rw [stake_mem L k hk, ← h.2 y]
  refine ⟨.inr, fun e => e.elim (fun e => ?_) id⟩
  rw [e, ← he, List.getD_eq_getElem?_getD, List.getElem?_eq_getElem hp]
  exact List.mem_map_of_mem (List.getElem_mem hp)
theorem rso_new {L O : List ByteArray} {k p : Nat} (h : RsO L O k) (hk : k < L.length) (hM : Mid O (tl (L.getD k ⟨#[]⟩)) p p) (hne : p < O.length → O.getD p ⟨#[]⟩ ≠ L.getD k ⟨#[]⟩) : RsO L (O.take p ++ L.getD k ⟨#[]⟩ :: O.drop p) (k + 1) :=
  ⟨mid_up h.1 hM hne, fun y => by rw [stake_mem L k hk, smem_ins, h.2 y]⟩
set_option maxRecDepth 100000 in
set_option maxHeartbeats 2000000 in
theorem rsort_some (L : List ByteArray) (b off cap : Nat) (w : World) (hl : L.length ≤ 100000) (hb : b < w.heap.size) (hc : ∀ j, j < L.length → w.cell? ⟨b, off + j, none⟩ = some (.string (L.getD j ⟨#[]⟩))) :
    Calls Tryz.prog 78 #[.slice (some ⟨b, off, none⟩) L.length cap] w fun e w' => ∃ (v : Value) (K : List ByteArray), e = .returned v ∧ RsO L K L.length ∧ w'.ownsRow w.heap.size 9 1 v K.length (K.map Value.string) ∧ Below w.heap.size w w' := by
  obtain ⟨i0, hi, hz0, hz1, hz2⟩ := info_parts info9
  have HC := hide' hc
  clear hc
  go_enter Tryz.func78, Tryz.ntmps78
  go_wp2
  go_loopw [3, 4] (fun o i wr => ∃ (k : Nat) (O : List ByteArray), k ≤ L.length ∧ O.length ≤ k ∧ i = .int .i64 k ∧ wr.ownsRow w.heap.size 9 1 o O.length (O.map Value.string) ∧ Below w.heap.size w wr ∧ Hid (RsO L O k)) (fun _ i _ => L.length - (intOf i).toNat)
  case atStart => exact ⟨0, [], Nat.zero_le _, Nat.le_refl _, rfl, World.ownsRow_nil _ _ _ _, Below.refl _ _, ⟨List.Pairwise.nil, fun y => Iff.rfl⟩⟩
  case round =>
    obtain ⟨k, O, hk, hO, rfl, hrow, hB, HI⟩ := hrel
    obtain ⟨a, c, rfl⟩ := srow_form hrow
    obtain ⟨wo, rfl⟩ : ∃ wo, wo = wr := ⟨_, rfl⟩
    by_cases hlt : k < L.length
    · have cx := HC.out k hlt
      have c1 := (hB.cell (p := ⟨b, off + k, none⟩) hb).trans cx
      go_wp2
      go_loopw [5, 6, 7] (fun p q _ wr => ∃ p' q' : Nat, p = .int .i64 p' ∧ q = .int .i64 q' ∧ p' ≤ q' ∧ q' ≤ O.length ∧ Hid (Mid O (tl (L.getD k ⟨#[]⟩)) p' q') ∧ ∃ n, wr = wo.drewN n) (fun p q _ _ => (intOf q).toNat - (intOf p).toNat)
      case atStart => exact ⟨0, O.length, rfl, rfl, Nat.zero_le _, Nat.le_refl _, ⟨fun i hi h0 => absurd h0 (Nat.not_lt_zero _), fun i hi h0 => absurd hi (Nat.not_lt.2 h0)⟩, 0, rfl⟩
      case round =>
        obtain ⟨p, q, rfl, rfl, hpq, hq, HM, n, rfl⟩ := hrel
        by_cases hlt2 : p < q
        · obtain ⟨g, rfl, hcc, hcell⟩ := srow_cells hrow (by omega)
          obtain ⟨m, hm⟩ : ∃ m, m = (p + q) / 2 := ⟨_, rfl⟩
          have c2 := hcell m (by omega)
          have hmi : ((p : Int) + q) / 2 = m := by omega
          have hm1 : p ≤ m := by omega
          have hm2 : m < q := by omega
          have hm3 : m < O.length := by omega
          clear hm
          have HH := hide' hcell
          clear hcell
          by_cases hd : tl (O.getD m ⟨#[]⟩) < tl (L.getD k ⟨#[]⟩)
          · have HM' := hide' (mid_lo HI.out.1 HM.out (by omega) hd)
            have hd' : Op.bytesLess (O.getD m ⟨#[]⟩).toList (L.getD k ⟨#[]⟩).toList = true := by rw [Go.Proofs.bytesLess_eq, Lib.toList_data, Lib.toList_data]; exact decide_eq_true hd
            generalize L.getD k ⟨#[]⟩ = x at cx c1 HM' hd'
            generalize O.getD m ⟨#[]⟩ = y at c2 hd'
            clear hd
            go_wp2
            rw [hmi]
            clear hmi HC HI HM HH cx hi hz0 hz1 hz2 hrow hB
            go_region
            go_wp2
            exact ⟨⟨m + 1, q, by go_num, rfl, by omega, hq, HM', _, rfl⟩, by simp [intOf]; omega⟩
          · have HM' := hide' (mid_hi HI.out.1 HM.out hd)
            have hd' : Op.bytesLess (O.getD m ⟨#[]⟩).toList (L.getD k ⟨#[]⟩).toList = false := by rw [Go.Proofs.bytesLess_eq, Lib.toList_data, Lib.toList_data]; exact decide_eq_false hd
            generalize L.getD k ⟨#[]⟩ = x at cx c1 HM' hd'
            generalize O.getD m ⟨#[]⟩ = y at c2 hd'
            clear hd
            go_wp2
            rw [hmi]
            clear hmi HC HI HM HH cx hi hz0 hz1 hz2 hrow hB
            go_region
            go_wp2
            exact ⟨⟨p, m, rfl, by go_num, by omega, by omega, HM', _, rfl⟩, by simp [intOf]; omega⟩
        · obtain rfl : p = q := by omega
          have hrow1 : (wo.drewN n).ownsRow w.heap.size 9 1 (.slice a O.length c) O.length (O.map Value.string) := hrow
          have hB1 : Below w.heap.size w (wo.drewN n) := below_drewN hB n
          have c3 : (wo.drewN n).cell? ⟨b, off + k, none⟩ = some (.string (L.getD k ⟨#[]⟩)) := c1
          clear hrow hB c1 hlt2 hpq
          generalize wo.drewN n = W at hrow1 hB1 c3 ⊢
          by_cases hpl : p < O.length
          · obtain ⟨g, rfl, hcc, hcell⟩ := srow_cells hrow1 (by omega)
            have c2 := hcell p hpl
            clear hcell
            by_cases heq : O.getD p ⟨#[]⟩ = L.getD k ⟨#[]⟩
            · have HI' : Hid (RsO L O (k + 1)) := rso_same HI.out hlt hpl heq
              have he : ((O.getD p ⟨#[]⟩).toList == (L.getD k ⟨#[]⟩).toList) = true := by rw [heq]; simp
              have HR := hide' hrow1
              have HB := hide' hB1
              generalize L.getD k ⟨#[]⟩ = x at c3 he
              generalize O.getD p ⟨#[]⟩ = y at c2 he
              clear HC HI HM hi hz0 hz1 hz2 heq cx hrow1 hB1
              go_wp2
              go_quiet (fail)
              go_wp2
              exact ⟨⟨k + 1, O, by omega, by omega, by go_num, HR.out, below_drewN HB.out _, HI'⟩, by simp [intOf]; omega⟩
            · have HI' := hide' (rso_new HI.out hlt HM.out (fun _ => heq))
              have HR := hide' hrow1
              have HB := hide' hB1
              have he : ((O.getD p ⟨#[]⟩).toList == (L.getD k ⟨#[]⟩).toList) = false := by
                rw [Lib.toList_data, Lib.toList_data]
                refine beq_eq_false_iff_ne.2 fun e => heq ?_
                rw [← ba_of (O.getD p ⟨#[]⟩), ← ba_of (L.getD k ⟨#[]⟩), e]
              clear heq
              generalize L.getD k ⟨#[]⟩ = x at cx c3 HI' he
              generalize O.getD p ⟨#[]⟩ = y at c2 he
              clear HC HI HM hrow1 hB1
              go_wp2
              go_quiet (fail)
              have hrow2 : (W.drewN nq).ownsRow w.heap.size 9 1 (.slice (some ⟨g, 0, none⟩) O.length c) O.length (O.map Value.string) := HR.out
              have hB2 : Below w.heap.size w (W.drewN nq) := below_drewN HB.out _
              clear HR HB he c2 c3
              generalize W.drewN nq = W2 at hrow2 hB2 ⊢
              have hsz := hB2.size
              have hpp : p ≤ O.length := hq
              have h2b : ∀ o, w.heap.size ≤ (W2.alloc o).heap.size := fun o => by simp; omega
              have hl1 : O.length + 1 ≤ maxLen := by unfold maxLen; omega
              clear hpl hq hcc
              go_wp2_with (at_builtin; refine wpList_append_own _ rfl _ _ 69 rfl w.heap.size 9 i0 (.string ⟨#[]⟩) 1 16 Tryz.underlying69 hi hz0 hz1 hz2 rfl (by decide) _ _ _ rfl (hrow2.alloc _) ⟨W2.heap.size, 0, none⟩ 1 1 [.string ⟨#[]⟩] rfl rfl (cell_one_new _ _ _) (by simp [Value.oneCell']) hl1 (by omega) (h2b _) ?_; intro v' w3 hown hgrow hif; clear hif; have hB3 := sapp_below hB2 hsz hrow2 hgrow; obtain ⟨g3, c3, cur, rfl, hbg, hheap, hmc, hcm, hcl, htk⟩ := sown_form hown (Nat.succ_pos _); clear hown hgrow hrow2 hB2 h2b hl1 hsz; obtain ⟨m, hm⟩ : ∃ m, m = O.length + 1 := ⟨_, rfl⟩; rw [← hm] at hmc htk ⊢; have HG := hide' hheap; have HT := hide' htk; have HB3 := hide' hB3; have HM := hide' hm; have hpm : p < m := (by omega); have HL := hide' hcl; have HX := hide' hbg; unfold maxLen at hcm; clear hheap htk hB3 hm hcl hbg)
              obtain ⟨X, hX⟩ : ∃ X, X = (O.drop p).map Value.string := ⟨_, rfl⟩
              obtain ⟨A, hA, f1, f2, f3, f4⟩ := copy_facts (V := w3.drew) HG.out HM.out hpp hmc HL.out HT.out X hX
              have FX := hide' hX
              clear hX
              have hsz1 : (Tryz.prog.info? 9).map (·.size) = some 1 := by rw [hi]; simp [hz1]
              have HS := hide' hsz1
              clear hsz1
              have hwr : IntKind.i64.wrap ((p : Int) + 1) = (p : Int) + 1 := by rw [IntKind.wrap_i64]; omega
              have hp0 : (0 : Int) ≤ (p : Int) + 1 := by omega
              have hp1 : (p : Int) + 1 ≤ (m : Int) := by omega
              have hp2 : ((p : Int) + 1).toNat = p + 1 := by omega
              have hp3 : ¬ c3 = p := by omega
              have hp4 : p ≤ m := by omega
              go_region_law (refine step_copy_splice rfl (.tmp 56) (.tmp 59) 69 69 rfl 9 Tryz.underlying69 HS.out (some A) (some ⟨g3, p, none⟩) (m - (p + 1)) (c3 - (p + 1)) (m - p) (c3 - p) (by simp [Act.eval, Act.put]) (by simp [Act.eval, Act.put]) g3 (p + 1) cur 9 HG.out X f1.out f2.out f3.out f4.out w.heap.size w (below_drewN HB3.out 1) HX.out ?_; intro w4 hg4 hb4)
              have c5 := (hb4.cell (p := ⟨b, off + k, none⟩) hb).trans cx
              have hsl := splice_len HM.out hpp hmc HL.out FX.out
              obtain ⟨u, hu⟩ : ∃ u, w4.cell? ⟨g3, p, none⟩ = some u := ⟨_, (scells_at hg4.out p).trans (List.getElem?_eq_getElem (by omega))⟩
              have hfz : w4.frozen? ⟨g3, p, none⟩ = false := Lib.frozen_of_heap hg4.out p
              have HB4 := hide' hb4
              clear hb4 hsl hA hwr hp0 hp1 hp2 hp3 hp4 f1 f2 f3 f4 HS HB3 HG cx
              go_wp2
              have hlen := ins_len O x p hpp
              exact ⟨⟨k + 1, O.take p ++ x :: O.drop p, by omega, by omega, by go_num, snew_row hg4.out HX.out HM.out hpp hmc (by unfold maxLen; omega) HL.out HT.out FX.out, HB4.out.setCell (p := ⟨g3, p, none⟩) HX.out _, HI'⟩, by simp [intOf]; omega⟩
          · have HI' := hide' (rso_new HI.out hlt HM.out (fun h => absurd h hpl))
            have HR := hide' hrow1
            have HB := hide' hB1
            have hpo : decide ((p : Int) < (O.length : Int)) = false := decide_eq_false (by omega)
            generalize L.getD k ⟨#[]⟩ = x at cx c3 HI'
            clear HC HI HM hrow1 hB1
            go_wp2
            go_quiet (fail)
            have hrow2 : (W.drewN nq).ownsRow w.heap.size 9 1 (.slice a O.length c) O.length (O.map Value.string) := HR.out
            have hB2 : Below w.heap.size w (W.drewN nq) := below_drewN HB.out _
            clear HR HB hpo c3
            generalize W.drewN nq = W2 at hrow2 hB2 ⊢
            have hsz := hB2.size
            have hpp : p ≤ O.length := hq
            have h2b : ∀ o, w.heap.size ≤ (W2.alloc o).heap.size := fun o => by simp; omega
            have hl1 : O.length + 1 ≤ maxLen := by unfold maxLen; omega
            clear hpl hq
            go_wp2_with (at_builtin; refine wpList_append_own _ rfl _ _ 69 rfl w.heap.size 9 i0 (.string ⟨#[]⟩) 1 16 Tryz.underlying69 hi hz0 hz1 hz2 rfl (by decide) _ _ _ rfl (hrow2.alloc _) ⟨W2.heap.size, 0, none⟩ 1 1 [.string ⟨#[]⟩] rfl rfl (cell_one_new _ _ _) (by simp [Value.oneCell']) hl1 (by omega) (h2b _) ?_; intro v' w3 hown hgrow hif; clear hif; have hB3 := sapp_below hB2 hsz hrow2 hgrow; obtain ⟨g3, c3, cur, rfl, hbg, hheap, hmc, hcm, hcl, htk⟩ := sown_form hown (Nat.succ_pos _); clear hown hgrow hrow2 hB2 h2b hl1 hsz; obtain ⟨m, hm⟩ : ∃ m, m = O.length + 1 := ⟨_, rfl⟩; rw [← hm] at hmc htk ⊢; have HG := hide' hheap; have HT := hide' htk; have HB3 := hide' hB3; have HM := hide' hm; have hpm : p < m := (by omega); have HL := hide' hcl; have HX := hide' hbg; unfold maxLen at hcm; clear hheap htk hB3 hm hcl hbg)
            obtain ⟨X, hX⟩ : ∃ X, X = (O.drop p).map Value.string := ⟨_, rfl⟩
            obtain ⟨A, hA, f1, f2, f3, f4⟩ := copy_facts (V := w3.drew) HG.out HM.out hpp hmc HL.out HT.out X hX
            have FX := hide' hX
            clear hX
            have hsz1 : (Tryz.prog.info? 9).map (·.size) = some 1 := by rw [hi]; simp [hz1]
            have HS := hide' hsz1
            clear hsz1
            have hwr : IntKind.i64.wrap ((p : Int) + 1) = (p : Int) + 1 := by rw [IntKind.wrap_i64]; omega
            have hp0 : (0 : Int) ≤ (p : Int) + 1 := by omega
            have hp1 : (p : Int) + 1 ≤ (m : Int) := by omega
            have hp2 : ((p : Int) + 1).toNat = p + 1 := by omega
            have hp3 : ¬ c3 = p := by omega
            have hp4 : p ≤ m := by omega
            go_region_law (refine step_copy_splice rfl (.tmp 56) (.tmp 59) 69 69 rfl 9 Tryz.underlying69 HS.out (some A) (some ⟨g3, p, none⟩) (m - (p + 1)) (c3 - (p + 1)) (m - p) (c3 - p) (by simp [Act.eval, Act.put]) (by simp [Act.eval, Act.put]) g3 (p + 1) cur 9 HG.out X f1.out f2.out f3.out f4.out w.heap.size w (below_drewN HB3.out 1) HX.out ?_; intro w4 hg4 hb4)
            have c5 := (hb4.cell (p := ⟨b, off + k, none⟩) hb).trans cx
            have hsl := splice_len HM.out hpp hmc HL.out FX.out
            obtain ⟨u, hu⟩ : ∃ u, w4.cell? ⟨g3, p, none⟩ = some u := ⟨_, (scells_at hg4.out p).trans (List.getElem?_eq_getElem (by omega))⟩
            have hfz : w4.frozen? ⟨g3, p, none⟩ = false := Lib.frozen_of_heap hg4.out p
            have HB4 := hide' hb4
            clear hb4 hsl hA hwr hp0 hp1 hp2 hp3 hp4 f1 f2 f3 f4 HS HB3 HG cx
            go_wp2
            have hlen := ins_len O x p hpp
            exact ⟨⟨k + 1, O.take p ++ x :: O.drop p, by omega, by omega, by go_num, snew_row hg4.out HX.out HM.out hpp hmc (by unfold maxLen; omega) HL.out HT.out FX.out, HB4.out.setCell (p := ⟨g3, p, none⟩) HX.out _, HI'⟩, by simp [intOf]; omega⟩
    · have hke : L.take k = L := List.take_of_length_le (by omega)
      have HK : Hid (RsO L O L.length) := by show RsO L O L.length; have := HI.out; unfold RsO at this ⊢; rw [hke] at this; rw [List.take_length]; exact this
      have HR := hide' hrow
      have HB := hide' hB
      clear HC HI hi hz0 hz1 hz2 hke hrow hB
      go_wp2
      go_ret
      exact ⟨_, O, rfl, HK.out, HR.out, HB.out⟩

theorem rsort_nil (a : Option Addr) (cap : Nat) (w : World) :
    Calls Tryz.prog 78 #[.slice a 0 cap] w fun e w' => e = .returned (.slice none 0 0) ∧ w' = w := by
  go_enter Tryz.func78, Tryz.ntmps78
  go_wp2
  go_loop [3, 4] (fun o i => o = .slice none 0 0 ∧ i = .int .i64 0) (fun _ _ => 0)
  case atStart => exact ⟨rfl, rfl⟩
  case round =>
    obtain ⟨rfl, rfl⟩ := hrel
    go_wp2
    go_ret
    exact ⟨rfl, rfl⟩

end Go.Proofs.YtpbfhbnkalambaaGreatDoor
namespace Go.Proofs.YtpbfhbnkalambaaGreatDoor
open Go.RowKit Go.Shelf

/-- what a List tells: an error's number, or that there are names -/
def listR (T : Tr) (p : Bs) : Option Nat := match lookN T p with
  | .bad m => some m
  | .non => some 10
  | .rt => none
  | .is n => if n.dir then none else some 11
def ListV (w : World) (T : Tr) (p : Bs) (r : Option Nat) (e : Ending) (w' : World) : Prop := Below w.heap.size w w' ∧ ∃ (v : Value) (er : Int), e = .returned (.tuple #[v, .int .i64 er]) ∧ match r with
  | some m => v = .slice none 0 0 ∧ er = m
  | none => er = 0 ∧ ∃ K : List ByteArray, w'.ownsRow w.heap.size 9 1 v K.length (K.map Value.string) ∧ Up (K.map tl) ∧ ∀ y, y ∈ K.map tl ↔ y ∈ kidNames T p
theorem kids_take {ns : List Nv} {k : Nat} {n : Nv} (c : Bs) (hn : ns[k]? = some n) (hv : valid n.path = true ∧ n.path ≠ []) : kidNames ((ns.take (k + 1)).map toE) c = kidNames ((ns.take k).map toE) c ++ (if par n.path = c then [last n.path] else []) := by
  unfold kidNames
  rw [List.take_add_one, hn, List.map_append, List.map_append, List.filterMap_append]
  congr 1
  show List.filterMap (kidOf c) [n.path] = _
  rw [List.filterMap_cons, kidOf_par hv.1 hv.2, List.filterMap_nil]
  by_cases hp : par n.path = c
  · rw [if_pos hp, if_pos hp]; rfl
  · rw [if_neg hp, if_neg hp]
theorem last_len (s : Bs) (h : s.length ≤ 1000) : (last s).length ≤ 1001 := by
  have h1 := kpt_tw s
  have h2 : last s = (kpt s).getLastD [] := rfl
  rw [h2]
  have h3 : ∀ K : List Bs, (K.getLastD []).length ≤ tw K := fun K => by
    induction K with
    | nil => simp [tw]
    | cons a r ih =>
      cases r with
      | nil => simp [tw]
      | cons b t =>
        have : ((a :: b :: t).getLastD []) = ((b :: t).getLastD []) := rfl
        rw [this]
        have e : tw (a :: b :: t) = 1 + a.length + tw (b :: t) := by simp [tw]
        omega
  have := h3 (kpt s)
  omega
theorem sown_kept {w w' : World} {base n : Nat} {v : Value} {xs : List Value} (h : w.ownsRow base 9 1 v n xs) (hb : Below w.heap.size w w') : w'.ownsRow base 9 1 v n xs := by
  refine ⟨h.1, ?_⟩
  rcases h.2 with h1 | ⟨g, cap, cur, rfl, h2, hg, r⟩
  · exact .inl h1
  · exact .inr ⟨g, cap, cur, rfl, h2, (hb.block g (lt_of_block hg)).trans hg, r⟩
theorem sown_base {w : World} {base b2 n : Nat} {v : Value} {xs : List Value} (h : w.ownsRow base 9 1 v n xs) (hb : b2 ≤ base) : w.ownsRow b2 9 1 v n xs := by
  refine ⟨h.1, ?_⟩
  rcases h.2 with h1 | ⟨g, cap, cur, rfl, h2, hg, r⟩
  · exact .inl h1
  · exact .inr ⟨g, cap, cur, rfl, Nat.le_trans hb h2, hg, r⟩
/-- sorted, from a row of one's own -/
theorem rsort_row (L : List ByteArray) (v : Value) (base : Nat) (w : World) (hl : L.length ≤ 100000) (h : w.ownsRow base 9 1 v L.length (L.map Value.string)) :
    Calls Tryz.prog 78 #[v] w fun e w' => ∃ (v : Value) (K : List ByteArray), e = .returned v ∧ RsO L K L.length ∧ w'.ownsRow w.heap.size 9 1 v K.length (K.map Value.string) ∧ Below w.heap.size w w' := by
  rcases Nat.eq_zero_or_pos L.length with h0 | h0
  · obtain rfl : L = [] := List.eq_nil_of_length_eq_zero h0
    obtain ⟨a, c, rfl⟩ := srow_form h
    refine (rsort_nil a c w).mono ?_
    rintro e w' ⟨rfl, rfl⟩
    exact ⟨_, [], rfl, ⟨List.Pairwise.nil, fun y => Iff.rfl⟩, World.ownsRow_nil _ _ _ _, Below.refl _ _⟩
  · obtain ⟨a, c, rfl⟩ := srow_form h
    obtain ⟨g, rfl, hc, hcell⟩ := srow_cells h h0
    have hg : g < w.heap.size := World.block_lt_of_cell? _ _ (hcell 0 h0)
    exact rsort_some L g 0 c w hl hg fun j hj => by rw [Nat.zero_add]; exact hcell j hj
set_option maxRecDepth 100000 in
set_option maxHeartbeats 4000000 in
theorem rlist_any (S : Nat → Prop) (R : Nat) (v : Value) (ns : List Nv) (clk rm : Int) (P : ByteArray) (w : World) (h : RGd w S R v ns clk rm) (hP : P.size ≤ 300000) :
    Calls Tryz.prog 49 #[.pointer (some ⟨R, 0, none⟩), .string P] w (ListV w (ns.map toE) (clean (tl P)) (listR (ns.map toE) (clean (tl P)))) := by
  obtain ⟨va, vc, hv⟩ := h.at_.row.len
  subst hv
  have q := rlook_any R _ ns clk rm P w h.at_.rb h.at_.nodes h.gd.srt h.len hP
  generalize clean (tl P) = c at q ⊢
  generalize hst : listR (ns.map toE) c = st
  have HST := hide' hst
  have H := hide' h
  have hln := h.len
  obtain ⟨i0, hi0, hz0, hz1, hz2⟩ := info_parts info9
  clear hst h
  go_enter Tryz.func49, Tryz.ntmps49
  go_wp2_with fail
  refine q.mono ?_
  rintro e w1 ⟨hb1, k, er, rfl, hm⟩
  clear q
  have HB1 := hide' hb1
  clear hb1
  cases hk : lookN (ns.map toE) c with
  | bad m' =>
    have hm0 := lookN_bad hk
    have hs0 : st = some m' := by rw [← HST.out]; unfold listR; rw [hk]
    subst hs0
    rw [hk] at hm
    obtain ⟨rfl, rfl⟩ := hm
    have h1 : ((m' : Int) == 0) = false := beq_eq_false_iff_ne.2 (by omega)
    have h2 : ¬ (m' : Int) = 0 := by omega
    clear hk HST hm0
    dsimp only
    go_wp2_with fail
    refine bodyPost_ret (v := .tuple #[.slice none 0 0, .int .i64 m']) (by simp [results, Tryz.results49, go_sem]) rfl ?_
    exact ⟨HB1.out, _, _, rfl, rfl, rfl⟩
  | non =>
    have hs0 : st = some 10 := by rw [← HST.out]; unfold listR; rw [hk]
    subst hs0
    rw [hk] at hm
    obtain ⟨rfl, rfl⟩ := hm
    clear hk HST
    dsimp only
    go_wp2_with fail
    refine bodyPost_ret (v := .tuple #[.slice none 0 0, .int .i64 10]) (by simp [results, Tryz.results49, go_sem]) rfl ?_
    exact ⟨HB1.out, _, _, rfl, rfl, rfl⟩
  | rt =>
    have hs0 : st = none := by rw [← HST.out]; unfold listR; rw [hk]
    subst hs0
    rw [hk] at hm
    obtain ⟨rfl, rfl⟩ := hm
    clear hk HST
    dsimp only
    go_wp2_with fail
    go_loopw [9, 10] (fun o i wr => ∃ (j : Nat) (O : List ByteArray), j ≤ ns.length ∧ i = .int .i64 j ∧ O.length ≤ j ∧ Hid (wr.ownsRow w.heap.size 9 1 o O.length (O.map Value.string)) ∧ Hid (O.map tl = kidNames ((ns.take j).map toE) c) ∧ Hid (Below w.heap.size w wr)) (fun _ i _ => ns.length - (intOf i).toNat)
    case atStart => exact ⟨0, [], Nat.zero_le _, rfl, Nat.le_refl _, hide' (World.ownsRow_nil _ _ _ _), hide' rfl, hide' HB1.out⟩
    case round =>
      obtain ⟨j, O, hj, rfl, hOl, HROW, HKN, HBR⟩ := hrel
      have hR1 := (H.out.below HBR.out).at_
      have c0 := hR1.rb.cells
      obtain ⟨oa, oc, ho⟩ := srow_form HROW.out
      subst ho
      by_cases hjl : j < ns.length
      · have k1 : (j : Int) < ns.length := by omega
        obtain ⟨m, hm⟩ : ∃ m, ns[j]? = some m := ⟨_, List.getElem?_eq_getElem hjl⟩
        have hmm := List.mem_of_getElem? hm
        have hval := H.out.gd.val (toE m) (List.mem_map.2 ⟨m, hmm, rfl⟩)
        obtain ⟨g, hva⟩ : ∃ g, va = some ⟨g, 0, none⟩ := by
          rcases hR1.row with ⟨_, e0⟩ | ⟨g, cap, cur, e, _⟩
          · rw [e0] at hm; simp at hm
          · cases e; exact ⟨g, rfl⟩
        subst hva
        have dc : ∀ W, Below w.heap.size w W → W.cell? ⟨R, 0, none⟩ = some (.slice (some ⟨g, 0, none⟩) ns.length vc) ∧ W.cell? ⟨g, j * 4, none⟩ = some (.string (mk m.path)) := fun W hb => by
          have hR := (H.out.below hb).at_
          refine ⟨hR.rb.cells, ?_⟩
          rcases hR.row with ⟨e0, _⟩ | ⟨g', cap, cur, e, hg, h1, h2, h4⟩
          · cases e0
          · cases e
            exact cell_row (r := 0) hg h4 hm (by omega) rfl
        have d0 := (dc wr HBR.out).2
        have hpl : m.path.length ≤ 1000 := by
          have := hval.1
          unfold valid at this
          simp only [Bool.and_eq_true, decide_eq_true_eq] at this
          exact this.1.1
        have q := rparent_any (mk m.path) (by rw [mk_size]; omega) wr
        have q2 := rtail_any (mk m.path) (by rw [mk_size]; omega)
        rw [tl_mk] at q q2
        have hpp : parent m.path = par m.path := rfl
        rw [hpp] at q
        have HTK := hide' (kids_take c hm hval)
        have HDC := hide' dc
        have hll := last_len m.path hpl
        clear hm hR1 hpp hval hmm dc
        generalize hlm : last m.path = lm at *
        by_cases hpc : par m.path = c
        · have e1 : (par m.path == c) = true := beq_iff_eq.2 hpc
          have htk := HTK.out
          rw [if_pos hpc] at htk
          have HTK2 := hide' htk
          generalize par m.path = pm at *
          clear hpc htk HTK
          go_wp2_with fail
          refine q.mono ?_
          rintro r w2 ⟨rfl, hb2⟩
          have hB2 := HBR.out.trans (hb2.mono HBR.out.size)
          obtain ⟨c0', d0'⟩ := HDC.out w2 hB2
          have hr2 := sown_kept HROW.out hb2
          have HB2 := hide' hB2
          clear q hb2 hB2
          dsimp only
          go_wp2_with fail
          refine (q2 w2).mono ?_
          rintro r w3 ⟨rfl, hb3⟩
          have hr3 := sown_kept hr2 hb3
          have hB3 := HB2.out.trans (hb3.mono HB2.out.size)
          have hsz := hB3.size
          have hl1 : O.length + 1 ≤ maxLen := by unfold maxLen; omega
          have h2b : ∀ o, w.heap.size ≤ (w3.alloc o).heap.size := fun o => by simp; omega
          clear q2 hr2 hb3 c0' d0' c0 d0 e1
          dsimp only
          go_wp2_with (at_builtin; refine wpList_append_own _ rfl _ _ 69 rfl w.heap.size 9 i0 (.string ⟨#[]⟩) 1 16 Tryz.underlying69 hi0 hz0 hz1 hz2 rfl (by decide) _ _ _ rfl (hr3.alloc _) ⟨w3.heap.size, 0, none⟩ 1 1 [.string (mk lm)] rfl rfl (cell_one_new _ _ _) (by simp [Value.oneCell']) hl1 (by omega) (h2b _) ?_; intro v' w4 hown hgrow hif; clear hif; have hB4 := sapp_below hB3 hsz hr3 hgrow; have HOW := hide' hown; have HB4 := hide' hB4; clear hown hgrow hB4 hr3 hB3 h2b hl1)
          refine ⟨⟨j + 1, O ++ [mk lm], by omega, by simp, by simp; omega, ?_, ?_, HB4⟩, by simp [intOf]; omega⟩
          · have := HOW.out
            refine hide' ?_
            rw [List.length_append, List.map_append]
            exact this
          · refine hide' ?_
            rw [HTK2.out, List.map_append, HKN.out]
            simp [tl_mk]
        · have e1 : (par m.path == c) = false := beq_eq_false_iff_ne.2 hpc
          have htk := HTK.out
          rw [if_neg hpc, List.append_nil] at htk
          have HTK2 := hide' htk
          generalize par m.path = pm at *
          clear hpc htk HTK q2
          go_wp2_with fail
          refine q.mono ?_
          rintro r w2 ⟨rfl, hb2⟩
          have HB2 := hide' (HBR.out.trans (hb2.mono HBR.out.size))
          have HR2 := hide' (sown_kept HROW.out hb2)
          clear q hb2
          dsimp only
          go_wp2_with fail
          exact ⟨⟨j + 1, O, by omega, by simp, by omega, HR2, hide' (by rw [HTK2.out]; exact HKN.out), HB2⟩, by simp [intOf]; omega⟩
      · obtain rfl : j = ns.length := by omega
        have k1 : ¬ (ns.length : Int) < ns.length := by omega
        have q := rsort_row O _ w.heap.size wr (by omega) HROW.out
        have hkn := HKN.out
        rw [List.take_length] at hkn
        have HKN2 := hide' hkn
        clear hkn hR1
        go_wp2_with fail
        refine q.mono ?_
        rintro r w2 ⟨v2, K, rfl, hrs, hr2, hb2⟩
        have HF : Hid (ListV w (ns.map toE) c none (.returned (.tuple #[v2, .int .i64 0])) w2) := hide' ⟨HBR.out.trans (hb2.mono HBR.out.size), v2, 0, rfl, rfl, K, sown_base hr2 HBR.out.size, hrs.1, fun y => by rw [hrs.2 y, List.take_length, HKN2.out]⟩
        clear q hrs hr2 hb2
        dsimp only
        go_wp2_with fail
        refine bodyPost_ret (v := .tuple #[v2, .int .i64 0]) (by simp [results, Tryz.results49, go_sem]) rfl ?_
        exact HF.out
  | is x =>
    rw [hk] at hm
    obtain ⟨rfl, i, n, rfl, hi, hp, rfl⟩ := hm
    have hR1 := (H.out.below HB1.out).at_
    have c0 := hR1.rb.cells
    have hil := (List.getElem?_eq_some_iff.1 hi).1
    have ki : (i : Int) < ns.length := by omega
    have ki3 : ((i : Int) == -1) = false := beq_eq_false_iff_ne.2 (by omega)
    have ki4 : ¬ (i : Int) = -1 := by omega
    have ki5 : (0 : Int) ≤ (i : Int) := by omega
    obtain ⟨g, hva⟩ : ∃ g, va = some ⟨g, 0, none⟩ := by
      rcases hR1.row with ⟨_, e0⟩ | ⟨g, cap, cur, e, _⟩
      · rw [e0] at hi; simp at hi
      · cases e; exact ⟨g, rfl⟩
    subst hva
    have c1 : w1.cell? ⟨g, i * 4 + 1, none⟩ = some (.bool n.nd.dir) := by
      rcases hR1.row with ⟨e0, _⟩ | ⟨g', cap, cur, e, hg, h1, h2, h4⟩
      · cases e0
      · cases e
        exact cell_row (r := 1) hg h4 hi (by omega) rfl
    · cases hd : n.nd.dir with
      | false =>
        have hs0 : st = some 11 := by rw [← HST.out]; unfold listR; rw [hk]; simp [hd]
        subst hs0
        rw [hd] at c1
        clear hk HST hi hp hd hR1
        dsimp only
        go_wp2_with fail
        refine bodyPost_ret (v := .tuple #[.slice none 0 0, .int .i64 11]) (by simp [results, Tryz.results49, go_sem]) rfl ?_
        exact ⟨HB1.out, _, _, rfl, rfl, rfl⟩
      | true =>
        have hs0 : st = none := by rw [← HST.out]; unfold listR; rw [hk]; simp [hd]
        subst hs0
        rw [hd] at c1
        clear hk HST hi hp hd hR1
        dsimp only
        go_wp2_with fail
        go_loopw [9, 10] (fun o i wr => ∃ (j : Nat) (O : List ByteArray), j ≤ ns.length ∧ i = .int .i64 j ∧ O.length ≤ j ∧ Hid (wr.ownsRow w.heap.size 9 1 o O.length (O.map Value.string)) ∧ Hid (O.map tl = kidNames ((ns.take j).map toE) c) ∧ Hid (Below w.heap.size w wr)) (fun _ i _ => ns.length - (intOf i).toNat)
        case atStart => exact ⟨0, [], Nat.zero_le _, rfl, Nat.le_refl _, hide' (World.ownsRow_nil _ _ _ _), hide' rfl, hide' HB1.out⟩
        case round =>
          obtain ⟨j, O, hj, rfl, hOl, HROW, HKN, HBR⟩ := hrel
          have hR1 := (H.out.below HBR.out).at_
          have c0 := hR1.rb.cells
          obtain ⟨oa, oc, ho⟩ := srow_form HROW.out
          subst ho
          by_cases hjl : j < ns.length
          · have k1 : (j : Int) < ns.length := by omega
            obtain ⟨m, hm⟩ : ∃ m, ns[j]? = some m := ⟨_, List.getElem?_eq_getElem hjl⟩
            have hmm := List.mem_of_getElem? hm
            have hval := H.out.gd.val (toE m) (List.mem_map.2 ⟨m, hmm, rfl⟩)
            have dc : ∀ W, Below w.heap.size w W → W.cell? ⟨R, 0, none⟩ = some (.slice (some ⟨g, 0, none⟩) ns.length vc) ∧ W.cell? ⟨g, j * 4, none⟩ = some (.string (mk m.path)) := fun W hb => by
              have hR := (H.out.below hb).at_
              refine ⟨hR.rb.cells, ?_⟩
              rcases hR.row with ⟨e0, _⟩ | ⟨g', cap, cur, e, hg, h1, h2, h4⟩
              · cases e0
              · cases e
                exact cell_row (r := 0) hg h4 hm (by omega) rfl
            have d0 := (dc wr HBR.out).2
            have hpl : m.path.length ≤ 1000 := by
              have := hval.1
              unfold valid at this
              simp only [Bool.and_eq_true, decide_eq_true_eq] at this
              exact this.1.1
            have q := rparent_any (mk m.path) (by rw [mk_size]; omega) wr
            have q2 := rtail_any (mk m.path) (by rw [mk_size]; omega)
            rw [tl_mk] at q q2
            have hpp : parent m.path = par m.path := rfl
            rw [hpp] at q
            have HTK := hide' (kids_take c hm hval)
            have HDC := hide' dc
            have hll := last_len m.path hpl
            clear hm hR1 hpp hval hmm dc
            generalize hlm : last m.path = lm at *
            by_cases hpc : par m.path = c
            · have e1 : (par m.path == c) = true := beq_iff_eq.2 hpc
              have htk := HTK.out
              rw [if_pos hpc] at htk
              have HTK2 := hide' htk
              generalize par m.path = pm at *
              clear hpc htk HTK
              go_wp2_with fail
              refine q.mono ?_
              rintro r w2 ⟨rfl, hb2⟩
              have hB2 := HBR.out.trans (hb2.mono HBR.out.size)
              obtain ⟨c0', d0'⟩ := HDC.out w2 hB2
              have hr2 := sown_kept HROW.out hb2
              have HB2 := hide' hB2
              clear q hb2 hB2
              dsimp only
              go_wp2_with fail
              refine (q2 w2).mono ?_
              rintro r w3 ⟨rfl, hb3⟩
              have hr3 := sown_kept hr2 hb3
              have hB3 := HB2.out.trans (hb3.mono HB2.out.size)
              have hsz := hB3.size
              have hl1 : O.length + 1 ≤ maxLen := by unfold maxLen; omega
              have h2b : ∀ o, w.heap.size ≤ (w3.alloc o).heap.size := fun o => by simp; omega
              clear q2 hr2 hb3 c0' d0' c0 d0 e1
              dsimp only
              go_wp2_with (at_builtin; refine wpList_append_own _ rfl _ _ 69 rfl w.heap.size 9 i0 (.string ⟨#[]⟩) 1 16 Tryz.underlying69 hi0 hz0 hz1 hz2 rfl (by decide) _ _ _ rfl (hr3.alloc _) ⟨w3.heap.size, 0, none⟩ 1 1 [.string (mk lm)] rfl rfl (cell_one_new _ _ _) (by simp [Value.oneCell']) hl1 (by omega) (h2b _) ?_; intro v' w4 hown hgrow hif; clear hif; have hB4 := sapp_below hB3 hsz hr3 hgrow; have HOW := hide' hown; have HB4 := hide' hB4; clear hown hgrow hB4 hr3 hB3 h2b hl1)
              refine ⟨⟨j + 1, O ++ [mk lm], by omega, by simp, by simp; omega, ?_, ?_, HB4⟩, by simp [intOf]; omega⟩
              · have := HOW.out
                refine hide' ?_
                rw [List.length_append, List.map_append]
                exact this
              · refine hide' ?_
                rw [HTK2.out, List.map_append, HKN.out]
                simp [tl_mk]
            · have e1 : (par m.path == c) = false := beq_eq_false_iff_ne.2 hpc
              have htk := HTK.out
              rw [if_neg hpc, List.append_nil] at htk
              have HTK2 := hide' htk
              generalize par m.path = pm at *
              clear hpc htk HTK q2
              go_wp2_with fail
              refine q.mono ?_
              rintro r w2 ⟨rfl, hb2⟩
              have HB2 := hide' (HBR.out.trans (hb2.mono HBR.out.size))
              have HR2 := hide' (sown_kept HROW.out hb2)
              clear q hb2
              dsimp only
              go_wp2_with fail
              exact ⟨⟨j + 1, O, by omega, by simp, by omega, HR2, hide' (by rw [HTK2.out]; exact HKN.out), HB2⟩, by simp [intOf]; omega⟩
          · obtain rfl : j = ns.length := by omega
            have k1 : ¬ (ns.length : Int) < ns.length := by omega
            have q := rsort_row O _ w.heap.size wr (by omega) HROW.out
            have hkn := HKN.out
            rw [List.take_length] at hkn
            have HKN2 := hide' hkn
            clear hkn hR1
            go_wp2_with fail
            refine q.mono ?_
            rintro r w2 ⟨v2, K, rfl, hrs, hr2, hb2⟩
            have HF : Hid (ListV w (ns.map toE) c none (.returned (.tuple #[v2, .int .i64 0])) w2) := hide' ⟨HBR.out.trans (hb2.mono HBR.out.size), v2, 0, rfl, rfl, K, sown_base hr2 HBR.out.size, hrs.1, fun y => by rw [hrs.2 y, List.take_length, HKN2.out]⟩
            clear q hrs hr2 hb2
            dsimp only
            go_wp2_with fail
            refine bodyPost_ret (v := .tuple #[v2, .int .i64 0]) (by simp [results, Tryz.results49, go_sem]) rfl ?_
            exact HF.out
end Go.Proofs.YtpbfhbnkalambaaGreatDoor
