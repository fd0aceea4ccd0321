/- What the reference's Members needs: bytes of a text in memory, rows of members in building, the first place of a text. -/
import Derived.Test.YtcijjigafcpcpaaGreatDoorRdg
import Derived.Test.YtcijjigafcpcpaaGreatDoorPp0
import Derived.Test.YtcijjigafcpcpaaGreatDoorFind
import Derived.Lib.ConvBytes
namespace Go.Proofs.YtcijjigafcpcpaaGreatDoor
open Go.RowKit Go.Maps

theorem at_occ (s sub : Bs) (i : Nat) (hi : i ≤ s.length) : Lib.occAt s sub i = true ↔ At s sub i := by
  unfold Lib.occAt At
  rw [List.isPrefixOf_iff_prefix, List.prefix_iff_eq_take]
  constructor
  · intro h
    refine ⟨?_, h.symm⟩
    have := congrArg List.length h
    rw [List.length_take, List.length_drop] at this
    omega
  · intro h
    exact h.2.symm
theorem findR_index {s sub : Bs} {z : Int} (h : FindR s sub z) : z = Lib.index s sub := by
  rcases h with ⟨rfl, hno⟩ | ⟨i, rfl, hat, hno⟩
  · refine (Lib.index_none fun j hj => ?_).symm
    cases e : Lib.occAt s sub j with
    | false => rfl
    | true => exact absurd ((at_occ s sub j hj).1 e) (hno j)
  · have hi : i ≤ s.length := by have := hat.1; omega
    refine (Lib.index_first hi ((at_occ s sub i hi).2 hat) fun j hj => ?_).symm
    cases e : Lib.occAt s sub j with
    | false => rfl
    | true => exact absurd ((at_occ s sub j (by omega)).1 e) (hno j hj)
/-- anvilref1.Find of the bytes that end a name -/
theorem rfind_any (s sub : Bs) (hs : s.length ≤ 1000000) (hb : sub.length ≤ 1000000) (w : World) : Calls Tryz.prog 22 #[.string (mk s), .string (mk sub)] w fun r w' => r = .returned (.int .i64 (Lib.index s sub)) ∧ w' = w :=
  (find_any s sub hs hb w).mono fun r w' ⟨⟨z, hz, hf⟩, hw⟩ => ⟨by rw [hz, findR_index hf], hw⟩
/-- bytes in a row that may be marked -/
def DatF (w : World) (v : Value) (bs : Bs) : Prop := ∃ g cap cur f, v = .slice (some ⟨g, 0, none⟩) bs.length cap ∧ w.heap[g]? = some (.cells cur 5 f) ∧ cur.toList.take bs.length = Lib.byteCells bs
theorem DatF.rds {w : World} {v : Value} {bs : Bs} (h : DatF w v bs) : Rds w v bs := by
  obtain ⟨g, cap, cur, f, rfl, hg, h4⟩ := h
  refine .inr ⟨_, _, rfl, fun _ => lt_of_block hg, fun j u hj => ?_⟩
  have hjl : j < bs.length := by
    have := (List.getElem?_eq_some_iff.1 hj).1
    rwa [Lib.byteCells_length] at this
  rw [← h4, List.getElem?_take_of_lt hjl] at hj
  rw [add_zero, Lib.cell_of_heap hg]
  simpa using hj
theorem DatF.kept {w w' : World} {v : Value} {bs : Bs} (h : DatF w v bs) (hk : ∀ g, v.ownBlock = some g → w'.heap[g]? = w.heap[g]?) : DatF w' v bs := by
  obtain ⟨g, cap, cur, f, rfl, hg, h4⟩ := h
  exact ⟨g, cap, cur, f, rfl, (hk g rfl).trans hg, h4⟩
theorem DatF.lt {w : World} {v : Value} {bs : Bs} (h : DatF w v bs) : ∀ g, v.ownBlock = some g → g < w.heap.size := fun g hg => by
  obtain ⟨g', cap, cur, f, rfl, h1, h4⟩ := h
  have : g' = g := Option.some.inj hg
  rw [← this]
  exact lt_of_block h1
theorem DatF.grown {w w' : World} {v va : Value} {bs : Bs} {base n : Nat} {xs : List Value} (hd : DatF w v bs) (ho : w.ownsRow base 37 3 va n xs) (hg : w.grownBy w' va.ownBlock) : DatF w' v bs := by
  refine hd.kept fun g hgb => hg.block g (hd.lt g hgb) fun e => ?_
  rcases ho.2 with ⟨rfl, _⟩ | ⟨g', cap, cur, rfl, _, hr, _⟩
  · cases e
  · obtain ⟨g2, cap2, cur2, f2, rfl, hc, _⟩ := hd
    have e1 : g = g' := Option.some.inj e
    have e2 : g2 = g := Option.some.inj hgb
    rw [e2, e1, hr] at hc
    simp at hc
/-- rows in building -/
structure BlF (w : World) (B : Nat) (l : Value) (ms : List Mv) : Prop where
  own : w.ownsRow B 37 3 l ms.length (flat ms)
  dat : ∀ m ∈ ms, DatF w m.dv m.data
theorem BlF.nil (w : World) (B : Nat) : BlF w B (.slice none 0 0) [] := ⟨World.ownsRow_nil _ _ _ _, fun n hn => (by cases hn)⟩
theorem BlF.below {w w' : World} {B : Nat} {l : Value} {ms : List Mv} (h : BlF w B l ms) (hb : Below w.heap.size w w') : BlF w' B l ms :=
  ⟨own_kept h.own hb, fun m hm => (h.dat m hm).kept fun g hg => hb.block g ((h.dat m hm).lt g hg)⟩
theorem BlF.form {w : World} {B : Nat} {l : Value} {ms : List Mv} (h : BlF w B l ms) : ∃ a c, l = .slice a ms.length c := by
  rcases h.own.2 with ⟨e, e2⟩ | ⟨g1, c1, cur1, e, _⟩
  · exact ⟨none, 0, by rw [e, e2]⟩
  · exact ⟨_, _, e⟩
theorem BlF.mems {w : World} {B : Nat} {l : Value} {ms : List Mv} (h : BlF w B l ms) : Mems w l ms := by
  rcases h.own.2 with ⟨rfl, e2⟩ | ⟨g, cap, cur, rfl, hbg, hg, r1, r2, r3, r4⟩
  · exact .inl ⟨⟨_, _, rfl⟩, List.length_eq_zero_iff.1 e2⟩
  · refine .inr ⟨g, 0, cap, rfl, r1, ⟨lt_of_block hg, fun i n hi => ?_, fun i n hi => ?_, fun i n hi => ?_⟩, fun n hn => (h.dat n hn).rds⟩
    · rw [Nat.zero_add]; exact cell_row hg r4 (r := 0) hi (by omega) rfl
    · rw [Nat.zero_add]; exact cell_row hg r4 (r := 1) hi (by omega) rfl
    · rw [Nat.zero_add]; exact cell_row hg r4 (r := 2) hi (by omega) rfl
theorem BlF.step {w w' : World} {B : Nat} {l l' : Value} {ms : List Mv} {x : Mv} (h : BlF w B l ms) (hd : DatF w x.dv x.data) (hg : w.grownBy w' l.ownBlock) (ho : w'.ownsRow B 37 3 l' (ms.length + 1) (flat ms ++ cellsM x)) : BlF w' B l' (ms ++ [x]) := by
  refine ⟨by rw [flat_snoc, List.length_append]; exact ho, fun m hm => ?_⟩
  rcases List.mem_append.1 hm with hm | hm
  · exact (h.dat m hm).grown h.own hg
  · rw [List.mem_singleton.1 hm]; exact hd.grown h.own hg
theorem BlF.grown {w w' : World} {B C : Nat} {w0 : World} {l : Value} {ms : List Mv} (h : BlF w B l ms) (hg : w.grownBy w' l.ownBlock) (hb : Below C w0 w) (hC : C ≤ B) (hC' : C ≤ w.heap.size) : Below C w0 w' :=
  hb.trans ⟨hg.os, hg.tape, hg.output, hg.size, fun b hb => hg.block b (by omega) (own_lt h.own (by omega))⟩
/-- a text's bytes in a new row -/
theorem conv_datF (w : World) (x : Bs) : (convert 9 26 (.string (mk x))).run Tryz.prog w = .ok (.slice (some ⟨w.heap.size, 0, none⟩) x.length (grownCap w x.length 0 5)) (Lib.bytesWorld w 5 (mk x)) ∧ DatF (Lib.bytesWorld w 5 (mk x)) (.slice (some ⟨w.heap.size, 0, none⟩) x.length (grownCap w x.length 0 5)) x ∧ Below w.heap.size w (Lib.bytesWorld w 5 (mk x)) := by
  have h1 := Lib.run_convert_string_bytes (P := Tryz.prog) w 9 26 5 (mk x) Tryz.underlying9 Tryz.underlying26 Tryz.underlying5
  rw [mk_size] at h1
  refine ⟨h1, ⟨_, _, _, _, rfl, Lib.bytesWorld_at_new w 5 (mk x), ?_⟩, ?_⟩
  · unfold Lib.bytesCells
    rw [Array.toList_append, List.take_left' (by simp)]
    simp [Lib.byteCells]
  · have h2 : Below w.heap.size w w.drew := below_drewn (B := w.heap.size) (w := w) 1
    refine ⟨?_, ?_, ?_, by rw [Lib.bytesWorld_size]; omega, fun j hj => Lib.bytesWorld_at_old w 5 (mk x) j hj⟩
    · exact h2.os
    · exact h2.tape
    · exact h2.output
end Go.Proofs.YtcijjigafcpcpaaGreatDoor
