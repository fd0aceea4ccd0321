/- The list of parts that grows (refs.parts) in memory; the contract of addByte. -/
import Derived.Test.YtaemmgllhmjceaaDoorPt
import Derived.Laws.IdiomStrings
namespace Go.Proofs.YtaemmgllhmjceaaDoor
open Go.RowKit

/-- a part and its arguments' row -/
abbrev Px := Pt × Value
def ptC (x : Px) : List Value := [.int .i64 x.1.kind, .string (mk x.1.text), .string (mk x.1.name), x.2]
def flatP (L : List Px) : List Value := L.flatMap ptC
theorem flatP_snoc (L : List Px) (x : Px) : flatP (L ++ [x]) = flatP L ++ ptC x := by unfold flatP; rw [List.flatMap_append]; simp
theorem flatP_len : ∀ L : List Px, (flatP L).length = L.length * 4
  | [] => rfl
  | x :: r => by
    have e : flatP (x :: r) = ptC x ++ flatP r := rfl
    rw [e, List.length_append, flatP_len r]
    show 4 + _ = _
    rw [List.length_cons]; omega
/-- its arguments lie in a row of their own -/
def ArgV (w : World) (B : Nat) (x : Px) : Prop := w.ownsRow B 9 1 x.2 x.1.args.length (x.1.args.map sV)
structure PsAt (w : World) (A B : Nat) (L : List Px) (row : Bs) (lv rv : Value) : Prop where
  blk : w.heap[A]? = some (.cells #[lv, rv] 45 (0, 0))
  list : w.ownsRow B 30 4 lv L.length (flatP L)
  args : ∀ x ∈ L, ArgV w B x
  row : w.ownsRow B 5 1 rv row.length (row.map bV)
  low : B ≤ A
section
variable {w : World} {A B : Nat} {L : List Px} {row : Bs} {lv rv : Value}
theorem PsAt.lt (h : PsAt w A B L row lv rv) : A < w.heap.size := lt_of_block h.blk
theorem PsAt.c0 (h : PsAt w A B L row lv rv) : w.cell? ⟨A, 0, none⟩ = some lv := by rw [Lib.cell_of_heap h.blk]; rfl
theorem PsAt.c1 (h : PsAt w A B L row lv rv) : w.cell? ⟨A, 1, none⟩ = some rv := by rw [Lib.cell_of_heap h.blk]; rfl
theorem PsAt.fz (h : PsAt w A B L row lv rv) (j : Nat) : w.frozen? ⟨A, j, none⟩ = false := Lib.frozen_of_heap h.blk j
theorem PsAt.lA (h : PsAt w A B L row lv rv) : lv.ownBlock ≠ some A := own_block h.list h.blk (by decide)
theorem PsAt.rA (h : PsAt w A B L row lv rv) : rv.ownBlock ≠ some A := own_block h.row h.blk (by decide)
theorem PsAt.below (h : PsAt w A B L row lv rv) {w' : World} (hb : Below w.heap.size w w') : PsAt w' A B L row lv rv :=
  ⟨(hb.block A h.lt).trans h.blk, own_below h.list hb, fun x hx => own_below (h.args x hx) hb, own_below h.row hb, h.low⟩
/-- the row of bytes is turned, and what comes of it is put into the box -/
theorem PsAt.putRow (h : PsAt w A B L row lv rv) {w0 w1 : World} {row' : Bs} {v' : Value} (hb : Below w.heap.size w w0) (hg : w0.grownBy w1 rv.ownBlock) (ho : w1.ownsRow B 5 1 v' row'.length (row'.map bV)) :
    PsAt (w1.setCell ⟨A, 1, none⟩ v') A B L row' lv v' ∧ Turn (nestS A rv) w (w1.setCell ⟨A, 1, none⟩ v') ∧ w1.heap[A]? = some (.cells #[lv, rv] 45 (0, 0)) := by
  have hlt := h.lt
  have hs0 := hb.size
  have key : ∀ k, k < w.heap.size → rv.ownBlock ≠ some k → w1.heap[k]? = w.heap[k]? := fun k hk hn => (hg.block k (by omega) (fun e => hn e.symm)).trans (hb.block k hk)
  have hA1 : w1.heap[A]? = some (.cells #[lv, rv] 45 (0, 0)) := (key A hlt h.rA).trans h.blk
  have hvA : v'.ownBlock ≠ some A := own_block ho hA1 (by decide)
  have kept : ∀ {e size n : Nat} {v : Value} {xs : List Value}, w.ownsRow B e size v n xs → e ≠ 5 → e ≠ 45 → (w1.setCell ⟨A, 1, none⟩ v').ownsRow B e size v n xs := fun hr h5 h45 =>
    own_kept hr fun g hgg => (set_other _ _ _ _ (fun (e : g = A) => own_block hr h.blk (Ne.symm h45) (e ▸ hgg))).trans (key g (own_lt hr g hgg) (own_apart hr h.row h5 hgg))
  refine ⟨⟨set_block hA1 1 _, kept h.list (by decide) (by decide), fun x hx => kept (h.args x hx) (by decide) (by decide), own_kept ho fun g hgg => set_other _ _ _ _ (fun e => hvA (e ▸ hgg)), h.low⟩, ⟨hg.os.trans hb.os, hg.tape.trans hb.tape, hg.output.trans hb.output, ?_, fun k hk hn => ?_⟩, hA1⟩
  · have := hg.size; simp; omega
  · rw [set_other _ _ _ _ (fun e => hn (.inl e))]
    exact key k hk (fun e => hn (.inr e))
/-- the list is turned, and what comes of it is put into the box -/
theorem PsAt.putList (h : PsAt w A B L row lv rv) {w0 w1 : World} {x : Px} {v' : Value} (hb : Below w.heap.size w w0) (hg : w0.grownBy w1 lv.ownBlock) (ho : w1.ownsRow B 30 4 v' (L.length + 1) (flatP L ++ ptC x)) (hx : ArgV w B x) :
    PsAt (w1.setCell ⟨A, 0, none⟩ v') A B (L ++ [x]) row v' rv ∧ Turn (nestS A lv) w (w1.setCell ⟨A, 0, none⟩ v') ∧ w1.heap[A]? = some (.cells #[lv, rv] 45 (0, 0)) := by
  have hlt := h.lt
  have hs0 := hb.size
  have key : ∀ k, k < w.heap.size → lv.ownBlock ≠ some k → w1.heap[k]? = w.heap[k]? := fun k hk hn => (hg.block k (by omega) (fun e => hn e.symm)).trans (hb.block k hk)
  have hA1 : w1.heap[A]? = some (.cells #[lv, rv] 45 (0, 0)) := (key A hlt h.lA).trans h.blk
  have hvA : v'.ownBlock ≠ some A := own_block ho hA1 (by decide)
  have kept : ∀ {e size n : Nat} {v : Value} {xs : List Value}, w.ownsRow B e size v n xs → e ≠ 30 → e ≠ 45 → (w1.setCell ⟨A, 0, none⟩ v').ownsRow B e size v n xs := fun hr h5 h45 =>
    own_kept hr fun g hgg => (set_other _ _ _ _ (fun (e : g = A) => own_block hr h.blk (Ne.symm h45) (e ▸ hgg))).trans (key g (own_lt hr g hgg) (own_apart hr h.list h5 hgg))
  refine ⟨⟨set_block hA1 0 _, ?_, fun y hy => ?_, kept h.row (by decide) (by decide), h.low⟩, ⟨hg.os.trans hb.os, hg.tape.trans hb.tape, hg.output.trans hb.output, ?_, fun k hk hn => ?_⟩, hA1⟩
  · rw [List.length_append, flatP_snoc]
    exact own_kept ho fun g hgg => set_other _ _ _ _ (fun e => hvA (e ▸ hgg))
  · rcases List.mem_append.1 hy with hy | hy
    · exact kept (h.args y hy) (by decide) (by decide)
    · obtain rfl : y = x := by simpa using hy
      exact kept hx (by decide) (by decide)
  · have := hg.size; simp; omega
  · rw [set_other _ _ _ _ (fun e => hn (.inl e))]
    exact key k hk (fun e => hn (.inr e))
theorem PsAt.geL (h : PsAt w A B L row lv rv) : ∀ i, nestS A lv i → B ≤ i := fun i hi => by
  rcases hi with rfl | hi
  · exact h.low
  · exact own_low h.list i hi
theorem PsAt.geR (h : PsAt w A B L row lv rv) : ∀ i, nestS A rv i → B ≤ i := fun i hi => by
  rcases hi with rfl | hi
  · exact h.low
  · exact own_low h.row i hi
end
theorem ps_new (w : World) : PsAt (w.alloc (.cells #[.slice none 0 0, .slice none 0 0] 45)) w.heap.size w.heap.size [] [] (.slice none 0 0) (.slice none 0 0) :=
  ⟨heap_alloc_new w _, World.ownsRow_nil _ _ _ _, fun _ h => (by cases h), World.ownsRow_nil _ _ _ _, Nat.le_refl _⟩
set_option maxHeartbeats 1000000 in
theorem addByte_any (w : World) (A B : Nat) (L : List Px) (row : Bs) (lv rv : Value) (c : UInt8) (h : PsAt w A B L row lv rv) (hf : row.length ≤ 1000000) :
    Calls Tryd.prog 21 #[.pointer (some ⟨A, 0, none⟩), .int .u8 c.toNat] w fun e w' => e = .returned (.tuple #[]) ∧ Turn (nestS A rv) w w' ∧ ∃ rv', PsAt w' A B L (row ++ [c]) lv rv' := by
  obtain ⟨a, cp, hov⟩ := own_len h.row
  have k0 := h.c1
  rw [hov] at k0
  obtain ⟨inf, hi, hz0, hz1, hz2⟩ := info_parts info5
  have hlt := h.lt
  have hlow := h.low
  have hb : Below w.heap.size w (w.alloc (.cells #[bV c] 5)) := (Below.refl _ _).alloc (Nat.le_refl _) _
  have hown : (w.alloc (.cells #[bV c] 5)).ownsRow B 5 1 rv row.length (row.map bV) := own_below h.row hb
  rw [hov] at hown
  have H := hide' h
  clear h
  go_enter Tryd.func21, Tryd.ntmps21
  go_wp2_with (at_builtin; refine wpList_append_lies _ rfl _ _ 43 rfl B 5 inf _ 1 1 Tryd.underlying43 hi hz0 hz1 hz2 rfl (by decide) (.slice a row.length cp) row.length (row.map bV) rfl hown ⟨w.heap.size, 0, none⟩ 1 1 [bV c] rfl rfl (new_one w (bV c) 5) (by simp [Value.oneCell', bV]) (by decide) (by unfold maxLen; omega) (by omega) (by simp; omega) _ rfl ?_)
  intro g cap w1 ho hg hat hlt1
  have hg' : (w.alloc (.cells #[bV c] 5)).grownBy w1 rv.ownBlock := by rw [hov]; exact hg
  have hend := H.out.putRow (row' := row ++ [c]) hb hg' (by simpa using ho)
  have f6 := Lib.frozen_of_heap hend.2.2 1
  have e6 : w1.cell? ⟨A, 1, none⟩ = some rv := by rw [Lib.cell_of_heap hend.2.2]; rfl
  have HE := hide' hend
  clear hend hg hg' ho hat hown hb H
  go_wp2
  go_end0
  exact ⟨rfl, HE.out.2.1, _, HE.out.1⟩
/-- string(b) of a row of bytes of the call's own -/
theorem row_str {W : World} {R : Nat} {v : Value} {l : Bs} (h : W.ownsRow R 5 1 v l.length (l.map bV)) (h0 : l ≠ []) : (convert 43 9 v).run Tryd.prog W = .ok (.string (mk l)) W := by
  have hl : 0 < l.length := List.length_pos_iff.2 h0
  rcases h.2 with ⟨rfl, h0⟩ | ⟨g, cap, cur, rfl, _, hg, h1, h2, h3, h4⟩
  · omega
  · refine run_convert_bytes_back W 43 9 5 ⟨g, 0, none⟩ cap l Tryd.underlying43 Tryd.underlying5 Tryd.underlying9 fun j hj => ?_
    rw [add_zero, Lib.cell_of_heap hg]
    have : (l.map bV)[j]? = some (bV l[j]) := by simp [hj]
    rw [← h4, List.getElem?_take_of_lt (by omega)] at this
    simpa using this
/-- b[:0] -/
theorem row_none {W : World} {R n : Nat} {v : Value} {xs : List Value} (h : W.ownsRow R 5 1 v (n + 1) xs) : ∃ g cap, v = .slice (some ⟨g, 0, none⟩) (n + 1) cap ∧ W.ownsRow R 5 1 (.slice (some ⟨g, 0, none⟩) 0 cap) 0 [] := by
  rcases h.2 with ⟨_, h2⟩ | ⟨g, cap, cur, rfl, hg, hh, h3, h4, h5, h6⟩
  · cases h2
  · exact ⟨g, cap, rfl, rfl, .inr ⟨g, cap, cur, rfl, hg, hh, Nat.zero_le _, h4, h5, rfl⟩⟩
end Go.Proofs.YtaemmgllhmjceaaDoor
