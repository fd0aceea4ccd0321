/- The contract of anvilref1.Names: a new list of what stands between the slashes, the empty ones apart. -/
import Derived.Test.YtkfkeoajakakiaaClean
namespace Go.Proofs.Ytkfkeoajakakiaa
open Go.RowKit Go.Shelf

def ne (L : List (List UInt8)) : List (List UInt8) := L.filter (fun x => !x.isEmpty)
theorem ne_snoc0 (L : List (List UInt8)) : ne (L ++ [[]]) = ne L := by simp [ne]
theorem ne_snoc (L : List (List UInt8)) (x : List UInt8) (h : x ≠ []) : ne (L ++ [x]) = ne L ++ [x] := by
  cases x with
  | nil => exact absurd rfl h
  | cons _ _ => simp [ne]
theorem ne_nms (l : List UInt8) : ne (cut l) = nms l := rfl
theorem ne_len (L : List (List UInt8)) : (ne L).length ≤ L.length := List.length_filter_le _ _
theorem pc_len (s : ByteArray) (a k : Nat) (hk : k ≤ s.size) : (pc (tl s) a k).length = k - a := by
  unfold pc
  rw [List.length_take, List.length_drop, tl_len]
  omega
theorem pc_ne (s : ByteArray) (a k : Nat) (ha : a < k) (hk : k ≤ s.size) : pc (tl s) a k ≠ [] := by
  intro e
  have := pc_len s a k hk
  rw [e] at this
  simp at this
  omega
theorem ni_one (s : ByteArray) (L : List (List UInt8)) (a k : Nat) (ha : a ≤ k) (h : k < s.size) (hb : ¬ s[k] = 47) (hI : NI (tl s) L a k) : NI (tl s) L a (k + 1) := by
  refine ni_other s L a k 1 ha ?_ hI
  rw [drop_at s k h]
  simp
  exact fun e => hb e.symm

/-- what holds at place k, the list so far being L -/
def RN (s : ByteArray) (L : List (List UInt8)) (a k : Nat) : Prop := (k ≤ s.size ∧ a ≤ k ∧ ∃ L0, NI (tl s) L0 a k ∧ L = ne L0) ∨ (k = s.size + 1 ∧ L = nms (tl s))
theorem rn_start (s : ByteArray) : RN s [] 0 0 := .inl ⟨Nat.zero_le _, Nat.le_refl _, [], rfl, rfl⟩
theorem rn_other (s : ByteArray) (L : List (List UInt8)) (a k : Nat) (h : k < s.size) (hb : ¬ s[k] = 47) (hI : RN s L a k) : RN s L a (k + 1) := by
  rcases hI with ⟨_, ha, L0, hn, e⟩ | ⟨e, _⟩
  · exact .inl ⟨by omega, by omega, L0, ni_one s L0 a k ha h hb hn, e⟩
  · omega
theorem rn_slash (s : ByteArray) (L : List (List UInt8)) (a k : Nat) (ha : a < k) (h : k < s.size) (hb : s[k] = 47) (hI : RN s L a k) : RN s (L ++ [pc (tl s) a k]) (k + 1) (k + 1) := by
  rcases hI with ⟨_, _, L0, hn, e⟩ | ⟨e, _⟩
  · exact .inl ⟨by omega, by omega, _, ni_slash s L0 a k h hb hn, by rw [ne_snoc _ _ (pc_ne s a k ha (by omega)), e]⟩
  · omega
theorem rn_slash0 (s : ByteArray) (L : List (List UInt8)) (k : Nat) (h : k < s.size) (hb : s[k] = 47) (hI : RN s L k k) : RN s L (k + 1) (k + 1) := by
  rcases hI with ⟨_, _, L0, hn, e⟩ | ⟨e, _⟩
  · refine .inl ⟨by omega, by omega, _, ni_slash s L0 k k h hb hn, ?_⟩
    rw [pc_self, ne_snoc0, e]
  · omega
theorem rn_end (s : ByteArray) (L : List (List UInt8)) (a : Nat) (ha : a < s.size) (hI : RN s L a s.size) : L ++ [pc (tl s) a s.size] = nms (tl s) := by
  rcases hI with ⟨_, _, L0, hn, e⟩ | ⟨e, _⟩
  · rw [e, ← ne_snoc _ _ (pc_ne s a s.size ha (by omega)), ni_end s L0 a hn, ne_nms]
  · omega
theorem rn_end0 (s : ByteArray) (L : List (List UInt8)) (hI : RN s L s.size s.size) : L = nms (tl s) := by
  rcases hI with ⟨_, _, L0, hn, e⟩ | ⟨e, _⟩
  · have := ni_end s L0 s.size hn
    rw [pc_self] at this
    rw [e, ← ne_snoc0, this, ne_nms]
  · omega
theorem rn_a (s : ByteArray) (L : List (List UInt8)) (a k : Nat) (hk : k ≤ s.size) (hI : RN s L a k) : a ≤ k := by
  rcases hI with ⟨_, h, _⟩ | ⟨e, _⟩
  · exact h
  · omega

set_option maxRecDepth 100000 in
set_option maxHeartbeats 2000000 in
theorem rnames_any (s : ByteArray) (hs : s.size ≤ 500000) (w : World) :
    Calls Try.prog 27 #[.string s] w fun e W' => ∃ v : Value, e = .returned v ∧ Row W' w.heap.size v (nms (tl s)) ∧ Below w.heap.size w W' := by
  obtain ⟨i0, hi, hz0, hz1, hz2⟩ := info_parts info9
  go_enter Try.func27, Try.ntmps27
  go_wp2
  go_loopw [3, 4, 5] (fun o f i wr => ∃ (k a : Nat) (L : List (List UInt8)), k ≤ s.size + 1 ∧ a ≤ s.size + 1 ∧ L.length ≤ k ∧ f = .int .i64 a ∧ i = .int .i64 k ∧ Row wr w.heap.size o L ∧ Below w.heap.size w wr ∧ Hid (RN s L a k)) (fun _ _ i _ => s.size + 1 - (intOf i).toNat)
  case atStart => exact ⟨0, 0, [], Nat.zero_le _, Nat.zero_le _, Nat.le_refl _, rfl, rfl, World.ownsRow_nil _ _ _ _, Below.refl _ _, rn_start s⟩
  case round =>
    obtain ⟨k, a, L, hk, ha0, hL, rfl, rfl, hrow, hB, HI⟩ := hrel
    have hsz := hB.size
    have hpb : L.length + 1 ≤ maxLen := by unfold maxLen; omega
    have hbb : (L.length + 1) * 16 ≤ 140737488355328 := by omega
    have h2b : ∀ o, w.heap.size ≤ (wr.alloc o).heap.size := fun o => by simp; omega
    by_cases hlt : k < s.size
    · have ha := rn_a s L a k (by omega) HI.out
      have hkn : ((k : Int) == (s.size : Int)) = false := beq_eq_false_iff_ne.2 (by omega)
      have hkd : (k : Int) ≤ s.size := by omega
      by_cases h47 : s[k] = 47
      · have k1 := beq_yes s[k] 47 47 rfl h47
        by_cases hak : a < k
        · have HI1 := hide' (rn_slash s L a k hak hlt h47 HI.out)
          clear HI h47
          go_wp2_with (at_builtin; refine wpList_append_own _ rfl _ _ 29 rfl w.heap.size 9 i0 (.string ⟨#[]⟩) 1 16 Try.underlying29 hi hz0 hz1 hz2 rfl (by decide) _ _ _ rfl (hrow.alloc _) ⟨wr.heap.size, 0, none⟩ 1 1 [.string (s.extract a k)] rfl rfl (cell_one_new _ _ _) (by simp [Value.oneCell']) hpb hbb (h2b _) ?_; intro v' w2 hown' hgrow hif; clear hif)
          exact ⟨⟨k + 1, k + 1, L ++ [pc (tl s) a k], by omega, by omega, by simp; omega, by go_num, by go_num, row_snoc (ext_mk s a k) hown', app_below hB (Nat.le_refl _) hsz hrow hgrow, HI1⟩, by simp [intOf]; omega⟩
        · obtain rfl : a = k := by omega
          have HI1 := hide' (rn_slash0 s L a hlt h47 HI.out)
          clear HI h47 hpb hbb h2b
          go_wp2
          exact ⟨⟨a + 1, a + 1, L, by omega, by omega, by omega, by go_num, by go_num, hrow, hB, HI1⟩, by simp [intOf]; omega⟩
      · have k1 := beq_no s[k] 47 47 rfl h47
        have HI1 := hide' (rn_other s L a k hlt h47 HI.out)
        clear HI h47 hpb hbb h2b
        go_wp2
        exact ⟨⟨k + 1, a, L, by omega, by omega, by omega, rfl, by go_num, hrow, hB, HI1⟩, by simp [intOf]; omega⟩
    · by_cases hke : k = s.size
      · subst hke
        have ha := rn_a s L a s.size (Nat.le_refl _) HI.out
        by_cases hak : a < s.size
        · have HI1 : Hid (RN s (L ++ [pc (tl s) a s.size]) (s.size + 1) (s.size + 1)) := .inr ⟨rfl, rn_end s L a hak HI.out⟩
          clear HI
          go_wp2_with (at_builtin; refine wpList_append_own _ rfl _ _ 29 rfl w.heap.size 9 i0 (.string ⟨#[]⟩) 1 16 Try.underlying29 hi hz0 hz1 hz2 rfl (by decide) _ _ _ rfl (hrow.alloc _) ⟨wr.heap.size, 0, none⟩ 1 1 [.string (s.extract a s.size)] rfl rfl (cell_one_new _ _ _) (by simp [Value.oneCell']) hpb hbb (h2b _) ?_; intro v' w2 hown' hgrow hif; clear hif)
          exact ⟨⟨s.size + 1, s.size + 1, L ++ [pc (tl s) a s.size], by omega, by omega, by simp; omega, by go_num, by go_num, row_snoc (ext_mk s a s.size) hown', app_below hB (Nat.le_refl _) hsz hrow hgrow, HI1⟩, by simp [intOf]⟩
        · obtain rfl : a = s.size := by omega
          have HI1 : Hid (RN s L (s.size + 1) (s.size + 1)) := .inr ⟨rfl, rn_end0 s L HI.out⟩
          clear HI hpb hbb h2b
          go_wp2
          exact ⟨⟨s.size + 1, s.size + 1, L, by omega, by omega, by omega, by go_num, by go_num, hrow, hB, HI1⟩, by simp [intOf]⟩
      · obtain rfl : k = s.size + 1 := by omega
        have HF : Hid (L = nms (tl s)) := by
          rcases HI.out with ⟨h, _⟩ | ⟨_, h⟩
          · omega
          · exact h
        have hgt : ¬ ((s.size + 1 : Nat) : Int) ≤ s.size := by omega
        clear HI hpb hbb h2b
        go_wp2
        go_ret
        exact ⟨_, rfl, by rw [← HF.out]; exact hrow, hB⟩
end Go.Proofs.Ytkfkeoajakakiaa
