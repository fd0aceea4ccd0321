/- The contract of anvilref1.Split: it hands back a new list of the words of its text. -/
import Derived.Test.YtillechackcbpaaXLists
namespace Go.Proofs.Ytillechackcbpaa.Tx
open Go.RowKit Go.Shelf

def tl (x : ByteArray) : List UInt8 := x.data.toList
/-- the piece from a up to k -/
def pc (l : List UInt8) (a k : Nat) : List UInt8 := (l.drop a).take (k - a)
theorem pc_one (s : ByteArray) (k : Nat) (h : k < s.size) : pc s.data.toList k (k + 1) = [s[k]] := by
  unfold pc; rw [drop_at s k h, show k + 1 - k = 1 by omega]; rfl
theorem pc_more (s : ByteArray) (a k : Nat) (ha : a ≤ k) (h : k < s.size) : pc s.data.toList a (k + 1) = pc s.data.toList a k ++ [s[k]] := by
  unfold pc
  have hl : k - a < (s.data.toList.drop a).length := by simp; have : s.data.size = s.size := rfl; omega
  rw [show k + 1 - a = (k - a) + 1 by omega, List.take_succ_eq_append_getElem hl]
  congr 2
  rw [List.getElem_drop]
  have e : a + (k - a) = k := by omega
  simp only [e]
  rfl
theorem pc_ne (s : ByteArray) (a k : Nat) (ha : a < k) (hk : k ≤ s.size) : (pc s.data.toList a k).isEmpty = false := by
  have hl : (pc s.data.toList a k).length = k - a := by
    unfold pc; rw [List.length_take, List.length_drop]; have : s.data.toList.length = s.size := by simp
    omega
  cases h : pc s.data.toList a k with
  | nil => rw [h] at hl; simp at hl; omega
  | cons _ _ => rfl
theorem pc_ext (s : ByteArray) (a k : Nat) : tl (s.extract a k) = pc s.data.toList a k := Lib.extract_data s a k

/-- what holds of the list so far, of the word that is open (f: where it began, or -1) and of the rest -/
def RsI (s : ByteArray) (L : List ByteArray) (f : Int) (k : Nat) : Prop :=
  (f = -1 ∧ L.map tl ++ words (s.data.toList.drop k) = words s.data.toList) ∨ ∃ a : Nat, a < k ∧ f = a ∧ L.map tl ++ wgo (pc s.data.toList a k) (s.data.toList.drop k) = words s.data.toList
theorem rs_blank0 (s : ByteArray) (L : List ByteArray) (k : Nat) (h : k < s.size) (hb : bl s[k] = true) (hI : RsI s L (-1) k) : RsI s L (-1) (k + 1) := by
  rcases hI with ⟨_, e⟩ | ⟨a, _, ha, _⟩
  · refine .inl ⟨rfl, ?_⟩
    rw [drop_at s k h, words_blank _ _ hb] at e
    exact e
  · omega
theorem rs_blank1 (s : ByteArray) (L : List ByteArray) (a k : Nat) (hk : k < s.size) (hb : bl s[k] = true) (hI : RsI s L a k) : RsI s (L ++ [s.extract a k]) (-1) (k + 1) := by
  rcases hI with ⟨h, _⟩ | ⟨a', h1, ha, e⟩
  · omega
  · obtain rfl : a = a' := by omega
    refine .inl ⟨rfl, ?_⟩
    rw [drop_at s k hk] at e
    rw [List.map_append, List.map_singleton, pc_ext, List.append_assoc, ← e]
    simp [wgo, hb, pc_ne s a k h1 (by omega), words]
theorem rs_word0 (s : ByteArray) (L : List ByteArray) (k : Nat) (h : k < s.size) (hb : bl s[k] = false) (hI : RsI s L (-1) k) : RsI s L k (k + 1) := by
  rcases hI with ⟨_, e⟩ | ⟨a, _, ha, _⟩
  · refine .inr ⟨k, by omega, rfl, ?_⟩
    rw [drop_at s k h] at e
    rw [pc_one s k h, ← e]
    simp [words, wgo, hb]
  · omega
theorem rs_word1 (s : ByteArray) (L : List ByteArray) (a k : Nat) (hk : k < s.size) (hb : bl s[k] = false) (hI : RsI s L a k) : RsI s L a (k + 1) := by
  rcases hI with ⟨h, _⟩ | ⟨a', h1, ha, e⟩
  · omega
  · obtain rfl : a = a' := by omega
    refine .inr ⟨a, by omega, rfl, ?_⟩
    rw [drop_at s k hk] at e
    rw [pc_more s a k (by omega) hk, ← e]
    simp [wgo, hb]
theorem rs_end0 (s : ByteArray) (L : List ByteArray) (hI : RsI s L (-1) s.size) : L.map tl = words s.data.toList := by
  rcases hI with ⟨_, e⟩ | ⟨a, _, ha, _⟩
  · rw [drop_end s s.size (by omega), words_nil, List.append_nil] at e
    exact e
  · omega
theorem rs_end1 (s : ByteArray) (L : List ByteArray) (a : Nat) (hI : RsI s L a s.size) : (L ++ [s.extract a s.size]).map tl = words s.data.toList := by
  rcases hI with ⟨h, _⟩ | ⟨a', h1, ha, e⟩
  · omega
  · obtain rfl : a = a' := by omega
    rw [drop_end s s.size (by omega)] at e
    rw [List.map_append, List.map_singleton, pc_ext, ← e]
    simp [wgo, pc_ne s a s.size h1 (by omega)]

/-- behind an append onto a list of the call's own -/
theorem app_below {w W w1 : World} {base : Nat} {v : Value} {k : Nat} {xs : List Value} {tmp : Obj} (hB : Below base w W) (hbase : base ≤ W.heap.size) (hrow : W.ownsRow base 9 1 v k xs) (hgrow : (W.alloc tmp).grownBy w1 v.ownBlock) : Below base w w1 := by
  refine (hB.alloc hbase tmp).grown hgrow (by simp; omega) fun j ej => ?_
  rcases hrow.2 with ⟨rfl, _⟩ | ⟨g, cap, cur, rfl, hb, _, _⟩
  · simp [Value.ownBlock] at ej
  · obtain rfl : g = j := by simpa [Value.ownBlock] using ej
    exact hb

set_option maxRecDepth 100000 in
set_option maxHeartbeats 2000000 in
theorem rsplit_any (s : ByteArray) (hs : s.size ≤ 1000000) (w : World) :
    Calls Try.prog 40 #[.string s] w fun e W' => ∃ (v : Value) (L : List ByteArray), e = .returned v ∧ L.map tl = words s.data.toList ∧ W'.ownsRow w.heap.size 9 1 v L.length (L.map Value.string) ∧ Below w.heap.size w W' := by
  obtain ⟨i0, hi, hz0, hz1, hz2⟩ := info_parts info9
  go_enter Try.func40, Try.ntmps40
  go_wp2
  go_loopw [3, 4, 5] (fun o f i wr => ∃ (k : Nat) (L : List ByteArray) (n : Int), k ≤ s.size ∧ L.length ≤ k ∧ -1 ≤ n ∧ n ≤ k ∧ f = .int .i64 n ∧ i = .int .i64 k ∧ wr.ownsRow w.heap.size 9 1 o L.length (L.map Value.string) ∧ Below w.heap.size w wr ∧ RsI s L n k) (fun _ _ i _ => s.size - (intOf i).toNat)
  case atStart => exact ⟨0, [], -1, Nat.zero_le _, Nat.le_refl _, by omega, by omega, rfl, rfl, World.ownsRow_nil _ _ _ _, Below.refl _ _, .inl ⟨rfl, rfl⟩⟩
  case round =>
    obtain ⟨k, L, n, hk, hL, hn0, hn1, rfl, rfl, hrow, hB, hI⟩ := hrel
    have hsz := hB.size
    have hpb : L.length + 1 ≤ maxLen := by unfold maxLen; omega
    have hbb : (L.length + 1) * 16 ≤ 140737488355328 := by omega
    have h2b : ∀ o, w.heap.size ≤ (wr.alloc o).heap.size := fun o => by simp; omega
    by_cases hlt : k < s.size
    · have kb : ∀ w, Calls Try.prog 56 #[.int .u8 s[k].toNat] w fun e w' => e = .returned (.bool (bl s[k])) ∧ w = w' := fun w => (rblank_any s[k] w).mono fun e w' ⟨h1, h2⟩ => ⟨h1, h2.symm⟩
      cases hb : bl s[k] with
      | true =>
        rw [hb] at kb
        by_cases hn : 0 ≤ n
        · obtain ⟨a, rfl⟩ := Int.eq_ofNat_of_zero_le hn
          have hI' := rs_blank1 s L a k hlt hb hI
          clear hb hI
          go_wp2_with (first | (go_at_call 56; refine (kb _).mono ?_; rintro e w' ⟨rfl, rfl⟩) | (at_builtin; refine wpList_append_own _ rfl _ _ 41 rfl w.heap.size 9 i0 (.string ⟨#[]⟩) 1 16 Try.underlying41 hi hz0 hz1 hz2 rfl (by decide) _ _ _ rfl (hrow.alloc _) ⟨wr.heap.size, 0, none⟩ 1 1 [.string (s.extract a k)] rfl rfl (cell_one_new _ _ _) (by simp [Value.oneCell']) hpb hbb (h2b _) ?_; intro v' w2 hown' hgrow _))
          have hB2 := app_below hB hsz hrow hgrow
          exact ⟨⟨k + 1, L ++ [s.extract a k], -1, by omega, by simp; omega, by omega, by omega, rfl, by go_num, by simpa using hown', hB2, hI'⟩, by simp [intOf]; omega⟩
        · obtain rfl : n = -1 := by omega
          have hI' := rs_blank0 s L k hlt hb hI
          clear hb hI hpb hbb h2b
          go_wp2_with (go_at_call 56; refine (kb _).mono ?_; rintro e w' ⟨rfl, rfl⟩)
          exact ⟨⟨k + 1, L, -1, by omega, by omega, by omega, by omega, rfl, by go_num, hrow, hB, hI'⟩, by simp [intOf]; omega⟩
      | false =>
        rw [hb] at kb
        by_cases hn : 0 ≤ n
        · obtain ⟨a, rfl⟩ := Int.eq_ofNat_of_zero_le hn
          have hI' := rs_word1 s L a k hlt hb hI
          clear hb hI hpb hbb h2b
          go_wp2_with (go_at_call 56; refine (kb _).mono ?_; rintro e w' ⟨rfl, rfl⟩)
          exact ⟨⟨k + 1, L, a, by omega, by omega, by omega, by omega, rfl, by go_num, hrow, hB, hI'⟩, by simp [intOf]; omega⟩
        · obtain rfl : n = -1 := by omega
          have hI' := rs_word0 s L k hlt hb hI
          clear hb hI hpb hbb h2b
          go_wp2_with (go_at_call 56; refine (kb _).mono ?_; rintro e w' ⟨rfl, rfl⟩)
          exact ⟨⟨k + 1, L, k, by omega, by omega, by omega, by omega, rfl, by go_num, hrow, hB, hI'⟩, by simp [intOf]; omega⟩
    · obtain rfl : k = s.size := by omega
      by_cases hn : 0 ≤ n
      · obtain ⟨a, rfl⟩ := Int.eq_ofNat_of_zero_le hn
        have hI' := rs_end1 s L a hI
        have HI := hide' hI'
        clear hI hI'
        go_wp2_with (at_builtin; refine wpList_append_own _ rfl _ _ 41 rfl w.heap.size 9 i0 (.string ⟨#[]⟩) 1 16 Try.underlying41 hi hz0 hz1 hz2 rfl (by decide) _ _ _ rfl (hrow.alloc _) ⟨wr.heap.size, 0, none⟩ 1 1 [.string (s.extract a s.size)] rfl rfl (cell_one_new _ _ _) (by simp [Value.oneCell']) hpb hbb (h2b _) ?_; intro v' w2 hown' hgrow _)
        have hB2 := app_below hB hsz hrow hgrow
        go_ret
        exact ⟨_, L ++ [s.extract a s.size], rfl, HI.out, by simpa using hown', hB2⟩
      · obtain rfl : n = -1 := by omega
        have hI' := rs_end0 s L hI
        have HI := hide' hI'
        clear hI hI' hpb hbb h2b
        go_wp2
        go_ret
        exact ⟨_, rfl, L, HI.out, hrow, hB⟩
end Go.Proofs.Ytillechackcbpaa.Tx
