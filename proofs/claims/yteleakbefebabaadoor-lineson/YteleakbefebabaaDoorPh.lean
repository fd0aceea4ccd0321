/- The contract of anvilref10.Physical: it hands back a new list of the lines of its text. -/
import Derived.Test.YteleakbefebabaaDoorSp
import Derived.Test.YteleakbefebabaaDoorBa
namespace Go.Proofs.YteleakbefebabaaDoor
open Go.RowKit Go.Shelf

/-- what holds of the list so far, of the line that is open and of the rest -/
structure PhI (s : ByteArray) (L : List ByteArray) (f k : Nat) : Prop where
  le : f ≤ k
  eq : L.map tl ++ phG (pc (tl s) f k) ((tl s).drop k) = phys (tl s)
  sz : L.length ≤ f
theorem PhI.skip {s : ByteArray} {L : List ByteArray} {f k : Nat} (h : PhI s L f k) (hk : k < s.size) (hc : ¬ s[k] = 10) : PhI s L f (k + 1) := by
  have hle := h.le
  refine ⟨by omega, ?_, h.sz⟩
  rw [← h.eq, drop_at s k hk, pc_more s f k hle hk, phG, if_neg hc]
theorem PhI.cut {s : ByteArray} {L : List ByteArray} {f k : Nat} (h : PhI s L f k) (hk : k < s.size) (hc : s[k] = 10) : PhI s (L ++ [s.extract f k]) (k + 1) (k + 1) := by
  have hle := h.le
  have hsz := h.sz
  refine ⟨Nat.le_refl _, ?_, by simp; omega⟩
  rw [← h.eq, drop_at s k hk, pc_self, phG, if_pos hc, List.map_append, List.map_singleton, ext_pc, tl_mk, List.append_assoc]
  rfl
theorem PhI.fin0 {s : ByteArray} {L : List ByteArray} {f : Nat} (h : PhI s L f s.size) (hf : ¬ f < s.size) : L.map tl = phys (tl s) := by
  have hle := h.le
  obtain rfl : f = s.size := by omega
  rw [← h.eq, drop_all, pc_self]
  simp [phG]
theorem PhI.fin1 {s : ByteArray} {L : List ByteArray} {f : Nat} (h : PhI s L f s.size) (hf : f < s.size) : (L ++ [s.extract f s.size]).map tl = phys (tl s) := by
  have hl := pc_len s f s.size (by omega) (Nat.le_refl _)
  have hne : pc (tl s) f s.size ≠ [] := by intro e; rw [e] at hl; simp at hl; omega
  rw [← h.eq, drop_all, phG, if_neg hne, List.map_append, List.map_singleton, ext_pc, tl_mk]
theorem app_below {w W w1 : World} {base : Nat} {v : Value} {k : Nat} {xs : List Value} {tmp : Obj} (hB : Below base w W) (hbase : base ≤ W.heap.size) (hrow : W.ownsRow base 9 1 v k xs) (hgrow : (W.alloc tmp).grownBy w1 v.ownBlock) : Below base w w1 := by
  refine (hB.alloc hbase tmp).grown hgrow (by simp; omega) fun j ej => ?_
  rcases hrow.2 with ⟨rfl, _⟩ | ⟨g, cap, cur, rfl, hb, _, _⟩
  · simp [Value.ownBlock] at ej
  · obtain rfl : g = j := by simpa [Value.ownBlock] using ej
    exact hb

set_option maxRecDepth 100000 in
set_option maxHeartbeats 2000000 in
theorem phys_any (s : ByteArray) (hs : s.size ≤ 1000000) (w : World) :
    Calls Tryd.prog 10 #[.string s] w fun e W' => ∃ (v : Value) (L : List ByteArray), e = .returned v ∧ L.map tl = phys (tl s) ∧ W'.ownsRow w.heap.size 9 1 v L.length (L.map Value.string) ∧ Below w.heap.size w W' := by
  obtain ⟨i0, hi, hz0, hz1, hz2⟩ := info_parts info9
  go_enter Tryd.func10, Tryd.ntmps10
  go_wp2
  go_loopw [3, 4, 5] (fun o f i wr => ∃ (k a : Nat) (L : List ByteArray), k ≤ s.size ∧ f = .int .i64 a ∧ i = .int .i64 k ∧ wr.ownsRow w.heap.size 9 1 o L.length (L.map Value.string) ∧ Below w.heap.size w wr ∧ Hid (PhI s L a k)) (fun _ _ i _ => s.size - (intOf i).toNat)
  case atStart => exact ⟨0, 0, [], Nat.zero_le _, rfl, rfl, World.ownsRow_nil _ _ _ _, Below.refl _ _, ⟨Nat.le_refl _, by simp [pc, phys], Nat.le_refl _⟩⟩
  case round =>
    obtain ⟨k, a, L, hk, rfl, rfl, hrow, hB, HI⟩ := hrel
    have hsz := hB.size
    have hak := HI.out.le
    have hLa := HI.out.sz
    have hpb : L.length + 1 ≤ maxLen := by unfold maxLen; omega
    have hbb : (L.length + 1) * 16 ≤ 140737488355328 := by omega
    have h2b : ∀ o, w.heap.size ≤ (wr.alloc o).heap.size := fun o => by simp; omega
    by_cases hlt : k < s.size
    · by_cases h1 : s[k] = 10
      · have k1 := beq_yes s[k] 10 10 rfl h1
        have HI' := hide' (HI.out.cut hlt h1)
        clear HI h1
        go_wp2_with (at_builtin; refine wpList_append_own _ rfl _ _ 23 rfl w.heap.size 9 i0 (.string ⟨#[]⟩) 1 16 Tryd.underlying23 hi hz0 hz1 hz2 rfl (by decide) _ _ _ rfl (hrow.alloc _) ⟨wr.heap.size, 0, none⟩ 1 1 [.string (s.extract a k)] rfl rfl (cell_one_new _ _ _) (by simp [Value.oneCell']) hpb hbb (h2b _) ?_; intro v' w2 hown' hgrow _)
        have hB2 := app_below hB hsz hrow hgrow
        exact ⟨⟨k + 1, k + 1, L ++ [s.extract a k], by omega, by go_num, by go_num, by simpa using hown', hB2, HI'⟩, by simp [intOf]; omega⟩
      · have k1 := beq_no s[k] 10 10 rfl h1
        have HI' := hide' (HI.out.skip hlt h1)
        clear HI h1 hpb hbb h2b
        go_wp2
        exact ⟨⟨k + 1, a, L, by omega, rfl, by go_num, hrow, hB, HI'⟩, by simp [intOf]; omega⟩
    · obtain rfl : k = s.size := by omega
      by_cases hf : a < s.size
      · have HF := hide' (HI.out.fin1 hf)
        clear HI
        go_wp2_with (at_builtin; refine wpList_append_own _ rfl _ _ 23 rfl w.heap.size 9 i0 (.string ⟨#[]⟩) 1 16 Tryd.underlying23 hi hz0 hz1 hz2 rfl (by decide) _ _ _ rfl (hrow.alloc _) ⟨wr.heap.size, 0, none⟩ 1 1 [.string (s.extract a s.size)] rfl rfl (cell_one_new _ _ _) (by simp [Value.oneCell']) hpb hbb (h2b _) ?_; intro v' w2 hown' hgrow _)
        have hB2 := app_below hB hsz hrow hgrow
        go_ret
        exact ⟨_, L ++ [s.extract a s.size], rfl, HF.out, by simpa using hown', hB2⟩
      · have HF := hide' (HI.out.fin0 hf)
        clear HI hpb hbb h2b
        go_wp2
        go_ret
        exact ⟨_, L, rfl, HF.out, hrow, hB⟩
end Go.Proofs.YteleakbefebabaaDoor
