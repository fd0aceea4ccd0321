/- The contracts of text.Join and anvilref1.Join: the texts of a list with one blank between each two. -/
import Derived.Test.YtillechackcbpaaXGlue
namespace Go.Proofs.Ytillechackcbpaa.Tx
open Go.RowKit Go.Shelf

/-- the texts of a list with one byte 32 between each two -/
def jn (L : List ByteArray) : List UInt8 := jr [32] true L
theorem jr_len (L : List ByteArray) : ∀ f, (jr [32] f L).length ≤ tot L := by
  induction L with
  | nil => intro f; simp [jr]
  | cons x r ih =>
    intro f
    have := ih false
    simp only [jr, tot, List.length_append, show (tl x).length = x.size from (Lib.size_eq x).symm]
    cases f <;> simp <;> omega
theorem tot_next (L : List ByteArray) (k : Nat) (h : k < L.length) : tot (L.drop k) = 1 + (L.getD k ⟨#[]⟩).size + tot (L.drop (k + 1)) := by
  rw [List.drop_eq_getElem_cons h, List.getD_eq_getElem?_getD, List.getElem?_eq_getElem h]
  rfl

theorem join_any (L : List ByteArray) (v : Value) (w : World) (hl : tot L ≤ 1000000) (hL : L.length ≤ 1000000) (h : Strz w v L) :
    Calls Try.prog 52 #[v] w fun e w' => e = .returned (.string ⟨(jn L).toArray⟩) ∧ Below w.heap.size w w' := by
  have kg := glue_anyz ⟨#[32]⟩ L v w (by unfold maxLen; omega) h (by have := jr_len L true; show (jr [32] true L).length ≤ _; omega)
  have kg' : Calls Try.prog 64 #[.string ⟨#[32]⟩, v] w fun e w' => e = .returned (.string ⟨(jn L).toArray⟩) ∧ Below w.heap.size w w' := kg
  clear kg h
  generalize (⟨(jn L).toArray⟩ : ByteArray) = x at kg' ⊢
  go_enter Try.func52, Try.ntmps52
  go_wp2_with (go_at_call 64; refine kg'.mono ?_; rintro e w1 ⟨rfl, hb1⟩)
  go_ret
  exact ⟨rfl, hb1⟩

theorem rjoin_nil (a : Option Addr) (cap : Nat) (w : World) :
    Calls Try.prog 43 #[.slice a 0 cap] w fun e w' => e = .returned (.string ⟨#[]⟩) ∧ Below w.heap.size w w' := by
  obtain ⟨i0, hi, hz0, hz1, hz2⟩ := info_parts info5
  go_enter Try.func43, Try.ntmps43
  go_wp2
  go_loop [3, 4] (fun o i => o = .int .i64 0 ∧ i = .int .i64 0) (fun _ _ => 0)
  case atStart => exact ⟨rfl, rfl⟩
  case round =>
    obtain ⟨rfl, rfl⟩ := hrel
    go_wp2_with (at_make; refine wpList_make_own _ rfl _ _ 48 rfl w.heap.size 5 i0 (.int .u8 0) 1 Try.underlying48 hi hz0 hz1 .i64 .i64 0 0 rfl rfl rfl (by rw [hz2]; decide) (by decide) (Nat.le_refl _) ?_; intro w0 hown0 hgrow0)
    have hB0 := grow_below (Below.refl w.heap.size w) (Nat.le_refl _) (World.ownsRow_nil w w.heap.size 5 1) hgrow0
    go_loopw [5, 6] (fun o i wr => o = .slice (some ⟨w.heap.size, 0, none⟩) 0 0 ∧ i = .int .i64 0 ∧ wr = w0) (fun _ _ _ => 0)
    case atStart => exact ⟨rfl, rfl, rfl⟩
    case round =>
      obtain ⟨rfl, rfl, rfl⟩ := hrel
      have hcv := conv_row (l := []) hown0
      go_wp2
      go_ret
      exact ⟨rfl, hB0⟩

theorem blank_cell (P : List UInt8) : Lib.byteCells (P ++ [32]) = Lib.byteCells P ++ [.int .u8 32] := by simp [Lib.byteCells]

set_option maxRecDepth 100000 in
set_option maxHeartbeats 2000000 in
theorem rjoin_some (L : List ByteArray) (b off cap : Nat) (w : World) (hl : tot L ≤ 1000000) (hL : L.length ≤ 1000000) (hb : b < w.heap.size) (hc : ∀ j, j < L.length → w.cell? ⟨b, off + j, none⟩ = some (.string (L.getD j ⟨#[]⟩))) :
    Calls Try.prog 43 #[.slice (some ⟨b, off, none⟩) L.length cap] w fun e w' => e = .returned (.string ⟨(jn L).toArray⟩) ∧ Below w.heap.size w w' := by
  obtain ⟨i0, hi, hz0, hz1, hz2⟩ := info_parts info5
  have HC := hide' hc
  clear hc
  go_enter Try.func43, Try.ntmps43
  go_wp2
  go_loop [3, 4] (fun o i => ∃ k n : Nat, k ≤ L.length ∧ n ≤ 1000000 ∧ o = .int .i64 n ∧ i = .int .i64 k ∧ Hid (n + tot (L.drop k) = tot L)) (fun _ i => L.length - (intOf i).toNat)
  case atStart => exact ⟨0, 0, Nat.zero_le _, Nat.zero_le _, rfl, rfl, by show 0 + tot L = tot L; omega⟩
  case round =>
    obtain ⟨k, n, hk, hn, rfl, rfl, HT⟩ := hrel
    by_cases hlt : k < L.length
    · have c1 := HC.out k hlt
      have ht := tot_next L k hlt
      have hle : n + 1 + (L.getD k ⟨#[]⟩).size ≤ 1000000 := by have := HT.out; omega
      have HT' : Hid (n + (L.getD k ⟨#[]⟩).size + 1 + tot (L.drop (k + 1)) = tot L) := by show _ = _; have := HT.out; omega
      generalize L.getD k ⟨#[]⟩ = x at c1 hle HT'
      clear ht HT
      go_wp2
      exact ⟨⟨k + 1, n + x.size + 1, by omega, by omega, by go_num, by go_num, HT'⟩, by simp [intOf]; omega⟩
    · clear HT
      go_wp2_with (at_make; refine wpList_make_own _ rfl _ _ 48 rfl w.heap.size 5 i0 (.int .u8 0) 1 Try.underlying48 hi hz0 hz1 .i64 .i64 _ n rfl rfl rfl (by rw [hz2]; omega) (by unfold maxLen; omega) (Nat.le_refl _) ?_; intro w0 hown0 hgrow0)
      have hB0 := grow_below (Below.refl w.heap.size w) (Nat.le_refl _) (World.ownsRow_nil w w.heap.size 5 1) hgrow0
      clear hgrow0
      go_loopw [5, 6] (fun o i wr => ∃ (k : Nat) (P : List UInt8), k ≤ L.length ∧ i = .int .i64 k ∧ Hid (P = jr [32] true (L.take k)) ∧ wr.ownsRow w.heap.size 5 1 o P.length (Lib.byteCells P) ∧ Below w.heap.size w wr) (fun _ i _ => L.length - (intOf i).toNat)
      case atStart => exact ⟨0, [], Nat.zero_le _, rfl, rfl, hown0, hB0⟩
      case round =>
        clear hlt hk hown0 hB0
        obtain ⟨k, P, hk, rfl, HP0, hrow, hB⟩ := hrel
        have hsz := hB.size
        have h2b : ∀ o, w.heap.size ≤ (wr.alloc o).heap.size := fun o => by simp; omega
        have hPl : P.length ≤ 1000000 := by
          rw [HP0.out]
          exact Nat.le_trans (Nat.le_trans (jr_take [32] L k true) (jr_len L true)) hl
        by_cases hlt : k < L.length
        · have cx := HC.out k hlt
          have c1 := (hB.cell (p := ⟨b, off + k, none⟩) hb).trans cx
          have hnx := jr_next [32] L k hlt
          have hle : (jr [32] true (L.take (k + 1))).length ≤ 1000000 := Nat.le_trans (Nat.le_trans (jr_take [32] L (k + 1) true) (jr_len L true)) hl
          rw [← HP0.out] at hnx
          generalize L.getD k ⟨#[]⟩ = x at cx c1 hnx
          by_cases h0 : k = 0
          · rw [if_pos h0, List.nil_append] at hnx
            have HN := hide' hnx
            have hx : P.length + x.size ≤ 1000000 := by rw [hnx, List.length_append, show (tl x).length = x.size from (Lib.size_eq x).symm] at hle; exact hle
            subst h0
            rw [Nat.add_zero] at c1
            clear hnx HP0 hle cx
            have tok2 : True := trivial
            go_wp2_with (at_builtin; have _t := tok2; refine Lib.wpList_append_own_string _ rfl _ _ 48 9 rfl w.heap.size 5 i0 Try.underlying48 Try.underlying9 hi hz0 hz1 hz2 _ _ _ rfl hrow x rfl (by unfold maxLen; omega) (by omega) hsz ?_; intro v' w2 hown' hgrow hif; clear hif; obtain ⟨a2, c2, rfl⟩ := row_form hown'; clear tok2)
            have hB2 := grow_below hB hsz hrow hgrow
            exact ⟨⟨1, P ++ tl x, by omega, by go_num, HN.out.symm, by rw [len_str, cells_str]; exact hown', hB2⟩, by simp [intOf]; omega⟩
          · rw [if_neg h0] at hnx
            have HN := hide' hnx
            have hx : P.length + 1 + x.size ≤ 1000000 := by rw [hnx, List.length_append, List.length_append, show (tl x).length = x.size from (Lib.size_eq x).symm] at hle; simp at hle; omega
            have d0 : (0 : Int) < k := by omega
            clear hnx HP0 hle h0
            have tok1 : True := trivial
            have tok2 : True := trivial
            go_wp2_with (first | (at_builtin; have _t := tok1; refine wpList_append_own _ rfl _ _ 48 rfl w.heap.size 5 i0 (.int .u8 0) 1 1 Try.underlying48 hi hz0 hz1 hz2 rfl (by decide) _ _ _ rfl (hrow.alloc _) ⟨wr.heap.size, 0, none⟩ 1 1 [.int .u8 32] rfl rfl (cell_one_new _ _ _) (by simp [Value.oneCell']) (by unfold maxLen; omega) (by omega) (h2b _) ?_; intro v3 w3 hown3 hgrow3 hif; clear hif; rw [← blank_cell] at hown3; obtain ⟨a3, c3, rfl⟩ := row_form hown3; have hB3 := row_alloc_below hB hsz hrow hgrow3; have hs3 := hB3.size; have c3' := (hB3.cell (p := ⟨b, off + k, none⟩) hb).trans cx; obtain ⟨m, hm⟩ : ∃ m, m = P.length + 1 := ⟨_, rfl⟩; rw [← hm] at hown3 ⊢; have HM := hide' hm; have hm1 : m ≤ 1000001 := (by omega); clear tok1 hgrow3 hm) | (at_builtin; have _t := tok2; refine Lib.wpList_append_own_string _ rfl _ _ 48 9 rfl w.heap.size 5 i0 Try.underlying48 Try.underlying9 hi hz0 hz1 hz2 _ _ _ rfl hown3 x rfl (by unfold maxLen; omega) (by omega) hs3 ?_; intro v' w2 hown' hgrow hif; clear hif; obtain ⟨a2, c2, rfl⟩ := row_form hown'; clear tok2))
            have hB2 := grow_below hB3 hs3 hown3 hgrow
            exact ⟨⟨k + 1, (P ++ [32]) ++ tl x, by omega, by go_num, by show _ = _; rw [HN.out]; simp, by rw [len_str, cells_str, List.length_append, List.length_singleton, ← HM.out]; exact hown', hB2⟩, by simp [intOf]; omega⟩
        · have hke : L.take k = L := List.take_of_length_le (by omega)
          have hP : P = jn L := by have := HP0.out; rw [hke] at this; exact this
          have hcv : (convert 48 9 u5).run Try.prog wr = .ok (.string ⟨(jn L).toArray⟩) wr := by rw [← hP]; exact conv_row hrow
          clear hke hP HP0
          go_wp2
          go_ret
          exact ⟨rfl, hB⟩

theorem rjoin_any (L : List ByteArray) (v : Value) (w : World) (hl : tot L ≤ 1000000) (hL : L.length ≤ 1000000) (h : Strz w v L) :
    Calls Try.prog 43 #[v] w fun e w' => e = .returned (.string ⟨(jn L).toArray⟩) ∧ Below w.heap.size w w' := by
  rcases h.form with ⟨rfl, a, cap, rfl⟩ | ⟨_, b, off, cap, rfl, h3, h4⟩
  · exact rjoin_nil a cap w
  · exact rjoin_some L b off cap w hl hL h3 h4
end Go.Proofs.Ytillechackcbpaa.Tx
