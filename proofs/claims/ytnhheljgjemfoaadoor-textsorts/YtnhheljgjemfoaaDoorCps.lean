/- The contract of text.Copies: the texts of a list in memory of their own. -/
import Derived.Test.YtnhheljgjemfoaaDoorBas
import Derived.Laws.AppendOwnNone
import Derived.Maps.AppendAt
namespace Go.Proofs.YtnhheljgjemfoaaDoor
open Go.RowKit Go.Shelf
attribute [local go_sem] Oper.semAt_some

def cpB (x : ByteArray) : ByteArray := x
theorem clone_cp (x : ByteArray) (hx : x.size ≤ 100000000) (w : World) : Calls Tryd.prog 23 #[.string x] w fun e w' => e = .returned (.string (cpB x)) ∧ Below w.heap.size w w' := clone_any x w (by omega)
set_option maxRecDepth 100000 in
set_option maxHeartbeats 2000000 in
theorem copies_some (L : List ByteArray) (b off cap : Nat) (w : World) (hl : L.length ≤ 100000) (hb : b < w.heap.size) (hs : ∀ x ∈ L, x.size ≤ 100000000) (hc : ∀ j, j < L.length → w.cell? ⟨b, off + j, none⟩ = some (.string (L.getD j ⟨#[]⟩))) :
    Calls Tryd.prog 19 #[.slice (some ⟨b, off, none⟩) L.length cap] w fun e w' => ∃ v, e = .returned v ∧ w'.ownsRow w.heap.size 9 1 v L.length ((L.map cpB).map Value.string) ∧ Below w.heap.size w w' := by
  obtain ⟨i0, hi, hz0, hz1, hz2⟩ := info_parts info9
  go_enter Tryd.func19, Tryd.ntmps19
  go_wp2
  go_loopw [8, 3] (fun i l wr => ∃ k : Nat, k ≤ L.length ∧ i = .int .i64 k ∧ wr.ownsRow w.heap.size 9 1 l k (((L.take k).map cpB).map Value.string) ∧ Below w.heap.size w wr) (fun i _ _ => L.length - (intOf i).toNat)
  case atStart => exact ⟨0, Nat.zero_le _, rfl, World.ownsRow_nil _ _ _ _, Below.refl _ _⟩
  case round =>
    obtain ⟨k, hk, rfl, hrow, hB⟩ := hrel
    obtain ⟨a1, c1, rfl⟩ := row_form hrow
    by_cases hlt : k < L.length
    · have cc := (hB.cell (p := ⟨b, off + k, none⟩) hb).trans (hc k hlt)
      have hx : (L.getD k ⟨#[]⟩).size ≤ 100000000 := hs _ (by rw [List.getD_eq_getElem?_getD, List.getElem?_eq_getElem hlt]; exact List.getElem_mem hlt)
      have HT : Hid (((L.take k).map cpB).map Value.string ++ [.string (cpB (L.getD k ⟨#[]⟩))] = ((L.take (k + 1)).map cpB).map Value.string) := by
        show _ = _
        rw [List.take_succ_eq_append_getElem hlt, List.map_append, List.map_append, List.getD_eq_getElem?_getD, List.getElem?_eq_getElem hlt]
        rfl
      generalize L.getD k ⟨#[]⟩ = x at cc hx HT
      have kN := fun w => clone_cp x hx w
      have hsz := hB.size
      have hpb : k + 1 ≤ maxLen := by unfold maxLen; omega
      have hbb : (k + 1) * 16 ≤ 140737488355328 := by omega
      generalize cpB x = y at kN HT
      have HC := hide' hc
      have HS := hide' hs
      have HBB := hide' hb
      clear hc hs hb hx
      go_wp2_with (first | (go_at_call 23; refine (kN _).mono ?_; rintro e w3 ⟨rfl, hb3⟩; have hrow3 := row_below hrow hb3; have hs3 := hb3.size; have h2b : ∀ o, w.heap.size ≤ (w3.alloc o).heap.size := fun o => by simp; omega) | (at_builtin; refine wpList_append_own _ rfl _ _ 22 rfl w.heap.size 9 i0 (.string ⟨#[]⟩) 1 16 Tryd.underlying22 hi hz0 hz1 hz2 rfl (by decide) _ _ _ rfl (hrow3.alloc _) ⟨w3.heap.size, 0, none⟩ 1 1 [.string y] rfl rfl (cell_one_new _ _ _) (by simp [Value.oneCell']) hpb hbb (h2b _) ?_; intro v' w4 hown' hgrow hif; clear hif; obtain ⟨a2, c3, rfl⟩ := row_form hown'; have hB3 := hB.trans (hb3.mono hB.size); have hB4 := app_below hB3 (by omega) hrow3 hgrow; have HO := hide' hown'; clear hown' hgrow))
      exact ⟨⟨k + 1, by omega, by go_num, by rw [← HT.out]; exact HO.out, hB4⟩, by simp [intOf]; omega⟩
    · have hke : L.take k = L := List.take_of_length_le (by omega)
      obtain rfl : k = L.length := by omega
      rw [hke] at hrow
      have HO := hide' hrow
      clear hrow hke hc hs
      go_wp2
      go_ret
      exact ⟨_, rfl, HO.out, hB⟩
theorem copies_nil (a : Option Addr) (cap : Nat) (w : World) :
    Calls Tryd.prog 19 #[.slice a 0 cap] w fun e w' => e = .returned (.slice none 0 0) ∧ w' = w := by
  go_enter Tryd.func19, Tryd.ntmps19
  go_wp2
  go_loopw [8, 3] (fun i l wr => i = .int .i64 0 ∧ l = .slice none 0 0 ∧ wr = w) (fun _ _ _ => 0)
  case atStart => exact ⟨rfl, rfl, rfl⟩
  case round =>
    obtain ⟨rfl, rfl, rfl⟩ := hrel
    go_wp2
    go_ret
    exact ⟨rfl, rfl⟩
end Go.Proofs.YtnhheljgjemfoaaDoor
