/- The contracts of pat.shapesOf and of what several shapes match. -/
import Derived.Test.YtbegdhbpcgflkaaRefFilter
namespace Go.Proofs.Ytbegdhbpcgflkaa
open Go.RowKit Go.Shelf

theorem info38 : (Try.prog.info? 38).map (fun i : TypeInfo => (i.zero, i.size, i.bytes)) = some (some (.agg #[.string ⟨#[]⟩, .string ⟨#[]⟩, .bool false]), 3, 40) := by kernel_rfl
/-- a pattern's shape, as cells -/
def shc (p : ByteArray) : List Value := [.string (mk (ahd (tl p))), .string (mk (bhd (tl p))), .bool (opn (tl p))]
theorem flat_next (PS : List ByteArray) (k : Nat) (h : k < PS.length) : (PS.take (k + 1)).flatMap shc = (PS.take k).flatMap shc ++ shc (PS.getD k ⟨#[]⟩) := by
  rw [take_next PS k h, List.flatMap_append]; simp
theorem grow_belowN {w W w1 : World} {base : Nat} {e : TypeId} {v : Value} {n k : Nat} {xs : List Value} (hB : Below base w W) (hbase : base ≤ W.heap.size) (hrow : W.ownsRow base e n v k xs) (hgrow : W.grownBy w1 v.ownBlock) : Below base w w1 := by
  refine hB.grown hgrow hbase fun j ej => ?_
  rcases hrow.2 with ⟨rfl, _⟩ | ⟨g, cap, cur, rfl, hb, _, _⟩
  · simp [Value.ownBlock] at ej
  · obtain rfl : g = j := by simpa [Value.ownBlock] using ej
    exact hb
theorem row_alloc_belowN {w W w1 : World} {base : Nat} {e : TypeId} {v : Value} {n k : Nat} {xs : List Value} {tmp : Obj} (hB : Below base w W) (hbase : base ≤ W.heap.size) (hrow : W.ownsRow base e n v k xs) (hgrow : (W.alloc tmp).grownBy w1 v.ownBlock) : Below base w w1 :=
  grow_belowN (hB.alloc hbase tmp) (by simp; omega) (hrow.alloc tmp) hgrow
theorem cell_three_new (w : World) (x y z : Value) (t : TypeId) : ∀ j u, [x, y, z][j]? = some u → (w.alloc (.cells #[x, y, z] t)).cell? ((⟨w.heap.size, 0, none⟩ : Addr).add j) = some u := by
  intro j u hj
  match j, hj with
  | 0, hj => simp at hj; subst hj; simp [Addr.add]
  | 1, hj => simp at hj; subst hj; simp [Addr.add]
  | 2, hj => simp at hj; subst hj; simp [Addr.add]

set_option maxRecDepth 100000 in
set_option maxHeartbeats 2000000 in
theorem shapesOf_any (PS : List ByteArray) (ap : Option Addr) (cp : Nat) (w : World) (hp : PS.length ≤ 100000) (hps : ∀ j, (PS.getD j ⟨#[]⟩).size ≤ 1000000) (hP : Txt w ap PS) :
    Calls Try.prog 27 #[.slice ap PS.length cp] w fun e w' => ∃ v, e = .returned v ∧ w'.ownsRow w.heap.size 38 3 v PS.length (PS.flatMap shc) ∧ Below w.heap.size w w' := by
  obtain ⟨i0, hi, hz0, hz1, hz2⟩ := info_parts info38
  have HP := hide' hP
  have HPS := hide' hps
  clear hP hps
  go_enter Try.func27, Try.ntmps27
  go_wp2
  go_loopw [3, 8] (fun l i wr => ∃ (k : Nat), k ≤ PS.length ∧ i = .int .i64 k ∧ wr.ownsRow w.heap.size 38 3 l k ((PS.take k).flatMap shc) ∧ Below w.heap.size w wr) (fun _ i _ => PS.length - (intOf i).toNat)
  case atStart => exact ⟨0, Nat.zero_le _, rfl, World.ownsRow_nil _ _ _ _, Below.refl _ _⟩
  case round =>
    obtain ⟨k, hk, rfl, hrow, hB⟩ := hrel
    obtain ⟨av, cv, rfl⟩ := row_form hrow
    by_cases hlt : k < PS.length
    · obtain ⟨x, hx⟩ : ∃ x, x = PS.getD k ⟨#[]⟩ := ⟨_, rfl⟩
      have hxs : x.size ≤ 1000000 := by rw [hx]; exact HPS.out k
      have hn := flat_next PS k hlt
      rw [← hx] at hn
      obtain ⟨b, off, rfl, p1, p2⟩ := HP.out k hlt
      have c1 : wr.cell? ⟨b, off + k, none⟩ = some (.string x) := by rw [hx]; exact (hB.cell (p := ⟨b, off + k, none⟩) p1).trans p2
      have HN := hide' hn
      have q := fun w => shapeOf_any x w hxs
      have hsc : shc x = [.string (mk (ahd (tl x))), .string (mk (bhd (tl x))), .bool (opn (tl x))] := rfl
      generalize mk (ahd (tl x)) = sa at q hsc
      generalize mk (bhd (tl x)) = sb at q hsc
      generalize opn (tl x) = so at q hsc
      have HS := hide' hsc
      have HR := hide' hrow
      have HB := hide' hB
      clear hn hx p2 hsc hrow hB
      go_wp2_with fail
      refine (q _).mono ?_
      rintro e w1 ⟨rfl, hb1⟩
      have hrow := row_below HR.out hb1
      have hB := HB.out.trans (hb1.mono HB.out.size)
      have hsz := hB.size
      clear HR HB hb1 c1
      go_wp2_with (at_builtin; refine wpList_append_own _ rfl _ _ 47 rfl w.heap.size 38 i0 (.agg #[.string ⟨#[]⟩, .string ⟨#[]⟩, .bool false]) 3 40 Try.underlying47 hi hz0 hz1 hz2 rfl (by decide) _ _ _ rfl (hrow.alloc _) ⟨w1.heap.size, 0, none⟩ 1 1 [.string sa, .string sb, .bool so] rfl rfl (cell_three_new _ _ _ _ _) (by simp [Value.oneCell']) (by unfold maxLen; omega) (by omega) (by simp; omega) ?_; intro v' w2 hown' hgrow hif; clear hif; obtain ⟨a2, c3, rfl⟩ := row_form hown'; have hB2 := row_alloc_belowN hB hsz hrow hgrow; obtain ⟨m, hm⟩ : ∃ m, m = k + 1 := ⟨_, rfl⟩; rw [← hm] at hown' ⊢; have HO := hide' hown'; have HMM := hide' hm; have hm1 : m ≤ 100001 := (by omega); clear hown' hgrow hm)
      exact ⟨⟨k + 1, by omega, by go_num, by rw [HN.out, HS.out, ← HMM.out]; exact HO.out, hB2⟩, by simp [intOf]; omega⟩
    · have hfin : (PS.take k).flatMap shc = PS.flatMap shc := by rw [List.take_of_length_le (by omega)]
      have hke : k = PS.length := by omega
      rw [hfin] at hrow
      subst hke
      clear hfin
      go_wp2
      go_ret
      exact ⟨_, rfl, hrow, hB⟩

/-- shapes of patterns at an address, one behind the other -/
def Shp (W : World) (B : Nat) (a : Option Addr) (PS : List ByteArray) : Prop := ∀ k, k < PS.length → ∃ b, a = some ⟨b, 0, none⟩ ∧ B ≤ b ∧ b < W.heap.size ∧
  W.cell? ⟨b, k * 3, none⟩ = some (.string (mk (ahd (tl (PS.getD k ⟨#[]⟩))))) ∧ W.cell? ⟨b, k * 3 + 1, none⟩ = some (.string (mk (bhd (tl (PS.getD k ⟨#[]⟩))))) ∧ W.cell? ⟨b, k * 3 + 2, none⟩ = some (.bool (opn (tl (PS.getD k ⟨#[]⟩))))
theorem Shp.below {W W' : World} {B : Nat} {a : Option Addr} {PS : List ByteArray} (h : Shp W B a PS) (hb : Below W.heap.size W W') : Shp W' B a PS := fun k hk => by
  obtain ⟨b, e, h0, h1, h2, h3, h4⟩ := h k hk
  exact ⟨b, e, h0, Nat.lt_of_lt_of_le h1 hb.size, (hb.cell (p := ⟨b, k * 3, none⟩) h1).trans h2, (hb.cell (p := ⟨b, k * 3 + 1, none⟩) h1).trans h3, (hb.cell (p := ⟨b, k * 3 + 2, none⟩) h1).trans h4⟩
theorem flat_at (PS : List ByteArray) : ∀ (k j : Nat), k < PS.length → j < 3 → (PS.flatMap shc)[k * 3 + j]? = (shc (PS.getD k ⟨#[]⟩))[j]? := by
  induction PS with
  | nil => intro k j h; simp at h
  | cons p r ih =>
    intro k j hk hj
    have hl : (shc p).length = 3 := rfl
    rw [List.flatMap_cons]
    cases k with
    | zero => rw [List.getElem?_append_left (by rw [hl]; omega)]; simp
    | succ k =>
      rw [List.getElem?_append_right (by rw [hl]; omega), hl, show (k + 1) * 3 + j - 3 = k * 3 + j by omega, ih k j (by simpa using hk) hj]
      simp
theorem add_at (g k : Nat) : (⟨g, 0, none⟩ : Addr).add k = ⟨g, k, none⟩ := by unfold Addr.add; split <;> simp_all
theorem Shp.of_row {W : World} {base : Nat} {v : Value} {PS : List ByteArray} (h : W.ownsRow base 38 3 v PS.length (PS.flatMap shc)) : ∃ a c, v = .slice a PS.length c ∧ Shp W base a PS := by
  have h0 := h
  rcases h.2 with ⟨rfl, e⟩ | ⟨g, cap, cur, rfl, hg, hgb, h1, h2, h3, h4⟩
  · exact ⟨none, 0, by rw [e], fun k hk => by omega⟩
  · refine ⟨_, cap, rfl, fun k hk => ⟨g, rfl, hg, (Array.getElem?_eq_some_iff.1 hgb).1, ?_, ?_, ?_⟩⟩
    · have := h0.cells (g := g) rfl (k * 3) _ (by rw [show k * 3 = k * 3 + 0 by omega, flat_at PS k 0 hk (by omega)]; rfl)
      rw [add_at] at this; exact this
    · have := h0.cells (g := g) rfl (k * 3 + 1) _ (by rw [flat_at PS k 1 hk (by omega)]; rfl)
      rw [add_at] at this; exact this
    · have := h0.cells (g := g) rfl (k * 3 + 2) _ (by rw [flat_at PS k 2 hk (by omega)]; rfl)
      rw [add_at] at this; exact this

set_option maxHeartbeats 2000000 in
theorem anyMatch_any (B : Nat) (PS : List ByteArray) (sp : Option Addr) (cs : Nat) (x : ByteArray) (w : World) (hp : PS.length ≤ 100000) (hx : x.size ≤ 1000000) (hS : Shp w B sp PS) :
    Calls Try.prog 28 #[.slice sp PS.length cs, .string x] w fun e w' => e = .returned (.bool (ay PS x)) ∧ Below w.heap.size w w' := by
  have HP := hide' hS
  clear hS
  go_enter Try.func28, Try.ntmps28
  go_wp2
  go_loopw [11] (fun i wr => ∃ (k : Nat), k ≤ PS.length ∧ i = .int .i64 k ∧ Hid (ay (PS.take k) x = false) ∧ Below w.heap.size w wr) (fun i _ => PS.length - (intOf i).toNat)
  case atStart => exact ⟨0, Nat.zero_le _, rfl, rfl, Below.refl _ _⟩
  case round =>
    obtain ⟨k, hk, rfl, HK, hB⟩ := hrel
    by_cases hlt : k < PS.length
    · obtain ⟨b, rfl, _, p0, p1, p2, p3⟩ := HP.out k hlt
      have hn := ay_next PS k x hlt
      rw [HK.out, Bool.false_or] at hn
      have q := fun w => match_any (mk (ahd (tl (PS.getD k ⟨#[]⟩)))) (mk (bhd (tl (PS.getD k ⟨#[]⟩)))) (opn (tl (PS.getD k ⟨#[]⟩))) x w hx
      simp only [tl_mk] at q
      rw [show ms (ahd (tl (PS.getD k ⟨#[]⟩))) (bhd (tl (PS.getD k ⟨#[]⟩))) (opn (tl (PS.getD k ⟨#[]⟩))) (tl x) = mt (tl (PS.getD k ⟨#[]⟩)) (tl x) from rfl] at q
      have c1 := (hB.cell (p := ⟨b, k * 3, none⟩) p0).trans p1
      have c2 := (hB.cell (p := ⟨b, k * 3 + 1, none⟩) p0).trans p2
      have c3 := (hB.cell (p := ⟨b, k * 3 + 2, none⟩) p0).trans p3
      generalize mk (ahd (tl (PS.getD k ⟨#[]⟩))) = sa at q c1
      generalize mk (bhd (tl (PS.getD k ⟨#[]⟩))) = sb at q c2
      generalize opn (tl (PS.getD k ⟨#[]⟩)) = so at q c3
      generalize (mt (tl (PS.getD k ⟨#[]⟩)) (tl x)).2 = r at q hn
      generalize mk (mt (tl (PS.getD k ⟨#[]⟩)) (tl x)).1 = r1 at q
      have hsz := hB.size
      clear p1 p2 p3 HP
      cases r with
      | true =>
        have HE := hide' (ay_true PS (k + 1) x hn.symm)
        clear hn HK
        go_wp2_with fail
        refine (q _).mono ?_
        rintro e w1 ⟨rfl, hb1⟩
        go_wp2
        go_ret
        exact ⟨by rw [← HE.out]; rfl, (hB.alloc hsz _).trans (hb1.mono (by simp; omega))⟩
      | false =>
        have HN := hide' hn
        clear hn HK
        go_wp2_with fail
        refine (q _).mono ?_
        rintro e w1 ⟨rfl, hb1⟩
        go_wp2
        exact ⟨⟨k + 1, by omega, by go_num, HN, (hB.alloc hsz _).trans (hb1.mono (by simp; omega))⟩, by simp [intOf]; omega⟩
    · have hfin : ay PS x = false := by rw [← HK.out, List.take_of_length_le (by omega)]
      have HF := hide' hfin
      clear hfin HK
      go_wp2
      go_ret
      exact ⟨by rw [HF.out]; rfl, hB⟩
end Go.Proofs.Ytbegdhbpcgflkaa
