/- The contracts of the stack's enter, leave and none. -/
import Derived.Test.YthkjinhnnilalaaGreatDoorMem
namespace Go.Proofs.YthkjinhnnilalaaGreatDoor
open Go.RowKit

theorem new_one (W : World) (x : Value) (t : TypeId) : ∀ j u, [x][j]? = some u → (W.alloc (.cells #[x] t)).cell? ((⟨W.heap.size, 0, none⟩ : Addr).add j) = some u := by
  intro j u hj
  rw [Addr.add_lit, Nat.zero_add, Lib.cell_of_heap (heap_alloc_new W _)]
  match j, hj with
  | 0, hj => exact hj
/-- the row is turned, and what comes of it is put into the box -/
theorem NestAt.put {w w0 w1 : World} {A B : Nat} {st st' : Bs} {ov v' : Value} (h : NestAt w A B st ov) (hb : Below w.heap.size w w0) (hg : w0.grownBy w1 ov.ownBlock) (ho : w1.ownsRow B 5 1 v' st'.length (st'.map bV)) :
    NestAt (w1.setCell ⟨A, 0, none⟩ v') A B st' v' ∧ Turn (nestS A ov) w (w1.setCell ⟨A, 0, none⟩ v') ∧ w1.heap[A]? = some (.cells #[ov] 128 (0, 0)) := by
  have hlt := h.lt
  have hs0 := hb.size
  have hA1 : w1.heap[A]? = some (.cells #[ov] 128 (0, 0)) := (hg.block A (by omega) (fun e => h.oA e.symm)).trans ((hb.block A hlt).trans h.blk)
  have hvA : v'.ownBlock ≠ some A := own_block ho hA1 (by decide)
  refine ⟨⟨set_block hA1 0 _, own_kept ho fun g hgg => set_other _ _ _ _ (fun e => hvA (e ▸ hgg)), h.low⟩, ⟨hg.os.trans hb.os, hg.tape.trans hb.tape, hg.output.trans hb.output, ?_, fun k hk hn => ?_⟩, hA1⟩
  · have := hg.size; simp; omega
  · rw [set_other _ _ _ _ (fun e => hn (.inl e))]
    exact (hg.block k (by omega) (fun e => hn (.inr e.symm))).trans (hb.block k hk)
set_option maxHeartbeats 1000000 in
theorem enter_any (w : World) (A B : Nat) (st : Bs) (ov : Value) (c : UInt8) (h : NestAt w A B st ov) (hf : st.length ≤ 1000000) :
    Calls Tryz.prog 86 #[.pointer (some ⟨A, 0, none⟩), .int .u8 c.toNat] w fun e w' => e = .returned (.tuple #[]) ∧ Turn (nestS A ov) w w' ∧ ∃ ov', NestAt w' A B (st ++ [c]) ov' := by
  obtain ⟨a, cp, hov⟩ := own_len h.row
  have k0 := h.c0
  rw [hov] at k0
  obtain ⟨inf, hi, hz0, hz1, hz2⟩ := info_parts info5
  have hlt := h.lt
  have hlow := h.low
  have hb : Below w.heap.size w (w.alloc (.cells #[bV c] 5)) := (Below.refl _ _).alloc (Nat.le_refl _) _
  have hown : (w.alloc (.cells #[bV c] 5)).ownsRow B 5 1 ov st.length (st.map bV) := own_below h.row hb
  rw [hov] at hown
  have H := hide' h
  clear h
  go_enter Tryz.func86, Tryz.ntmps86
  go_wp2_with (at_builtin; refine wpList_append_lies _ rfl _ _ 90 rfl B 5 inf _ 1 1 Tryz.underlying90 hi hz0 hz1 hz2 rfl (by decide) (.slice a st.length cp) st.length (st.map bV) rfl hown ⟨w.heap.size, 0, none⟩ 1 1 [bV c] rfl rfl (new_one w (bV c) 5) (by simp [Value.oneCell', bV]) (by decide) (by unfold maxLen; omega) (by omega) (by simp; omega) _ rfl ?_)
  intro g cap w1 ho hg hat hlt1
  have hg' : (w.alloc (.cells #[bV c] 5)).grownBy w1 ov.ownBlock := by rw [hov]; exact hg
  have hend := H.out.put (st' := st ++ [c]) hb hg' (by simpa using ho)
  have f6 := Lib.frozen_of_heap hend.2.2 0
  have e6 : w1.cell? ⟨A, 0, none⟩ = some ov := by rw [Lib.cell_of_heap hend.2.2]; rfl
  have HE := hide' hend
  clear hend hg hg' ho hat hown hb H
  go_wp2
  go_end0
  exact ⟨rfl, HE.out.2.1, _, HE.out.1⟩
theorem none_any (w : World) (A B : Nat) (st : Bs) (ov : Value) (h : NestAt w A B st ov) :
    Calls Tryz.prog 88 #[.pointer (some ⟨A, 0, none⟩)] w fun e w' => e = .returned (.bool (decide (st.length = 0))) ∧ w' = w := by
  obtain ⟨a, cp, hov⟩ := own_len h.row
  have k0 := h.c0
  rw [hov] at k0
  clear h hov
  go_enter Tryz.func88, Tryz.ntmps88
  go_wp2
  go_ret
  refine ⟨?_, rfl⟩
  exact ret_bool (by cases st <;> simp <;> omega)
/-- what is open behind a closing bracket -/
def pop (st : Bs) (c : UInt8) : Bs := if st.getLast? = some c then st.dropLast else st
theorem pop_nil (c : UInt8) : pop [] c = [] := rfl
theorem pop_yes (os : Bs) (c : UInt8) : pop (os ++ [c]) c = os := by unfold pop; simp
theorem pop_no (os : Bs) (b c : UInt8) (h : ¬ b = c) : pop (os ++ [b]) c = os ++ [b] := by unfold pop; simp [h]
set_option maxHeartbeats 1000000 in
theorem leave_any (w : World) (A B : Nat) (st : Bs) (ov : Value) (c : UInt8) (h : NestAt w A B st ov) (hf : st.length ≤ 1000000) :
    Calls Tryz.prog 87 #[.pointer (some ⟨A, 0, none⟩), .int .u8 c.toNat] w fun e w' => e = .returned (.tuple #[]) ∧ Turn (nestS A ov) w w' ∧ ∃ ov', NestAt w' A B (pop st c) ov' := by
  rcases List.eq_nil_or_concat st with rfl | ⟨os, b, rfl⟩
  · obtain ⟨a, cp, hov⟩ := own_len h.row
    have k0 := h.c0
    rw [hov] at k0
    have H := hide' h
    clear h hov
    go_enter Tryz.func87, Tryz.ntmps87
    go_wp2
    go_end0
    exact ⟨rfl, Turn.refl _ _, ov, H.out⟩
  · rw [List.concat_eq_append] at h hf ⊢
    have hl : (os ++ [b]).length = os.length + 1 := by simp
    have hrow := h.row
    rw [hl] at hrow
    have hf' : os.length + 1 ≤ 1000000 := by simpa using hf
    obtain ⟨g, cap, hv, h1, h2, h3, h4, h5⟩ := own_cut hrow
    have k0 := h.c0
    rw [hv] at k0
    have c1 : w.cell? ⟨g, os.length, none⟩ = some (.int .u8 b.toNat) := by rw [h4 _ (by omega)]; simp [bV]
    by_cases hbc : b = c
    · subst hbc
      have hend := h.put (w0 := w) (w1 := w) (st' := os) (v' := .slice (some ⟨g, 0, none⟩) os.length cap) (Below.refl _ _) ⟨rfl, rfl, rfl, Nat.le_refl _, fun _ _ _ => rfl⟩ (by
        have h6 : ((os ++ [b]).map bV).take os.length = os.map bV := by rw [List.map_append]; exact List.take_left' (by simp)
        rw [h6] at h5
        exact h5)
      have HE := hide' hend
      have f6 := h.fz 0
      have d1 : ((b.toNat : Int) == (b.toNat : Int)) = true := by simp
      clear h hend h4 h5 hrow hv
      go_enter Tryz.func87, Tryz.ntmps87
      go_wp2
      go_end0
      rw [pop_yes]
      exact ⟨rfl, HE.out.2.1, _, HE.out.1⟩
    · have d1 : ((b.toNat : Int) == (c.toNat : Int)) = false := beq_no _ _ _ rfl hbc
      have H := hide' h
      rw [pop_no os b c hbc]
      clear h h4 h5 hrow hv
      go_enter Tryz.func87, Tryz.ntmps87
      go_wp2
      go_end0
      exact ⟨rfl, Turn.refl _ _, ov, H.out⟩
end Go.Proofs.YthkjinhnnilalaaGreatDoor
