/- The contracts of strings.IndexAny and ContainsAny at the bytes 47, 0 and 10, whatever the text is. -/
import Derived.Test.YtcijjigafcpcpaaGreatDoorRune
import Derived.Laws.RangeAny
namespace Go.Proofs.YtcijjigafcpcpaaGreatDoor
open Go.RowKit Go.Shelf

theorem get_eq (s : ByteArray) (k : Nat) (h : k < s.size) : s.get! k = s[k] := by
  simp [ByteArray.get!, getElem!_pos, h]
  rfl
theorem decode_cont (s : ByteArray) (pos : Nat) : ∀ j, 1 ≤ j → j < (Utf8.decode s pos).2 → pos + j < s.size ∧ 128 ≤ (s.get! (pos + j)).toNat := by
  intro j h1 h2
  unfold Utf8.decode at h2
  dsimp only at h2
  repeat' split at h2
  all_goals try (exfalso; simp at h2; omega)
  · rename_i _ hc _
    simp only [Bool.and_eq_true, decide_eq_true_eq, beq_iff_eq] at hc
    obtain rfl : j = 1 := by simp at h2; omega
    exact ⟨hc.2.1, by have := hc.2.2; omega⟩
  · rename_i _ _ hc _
    simp only [Bool.and_eq_true, decide_eq_true_eq, beq_iff_eq] at hc
    rcases (by simp at h2; omega : j = 1 ∨ j = 2) with rfl | rfl
    · exact ⟨hc.1.2.1, by have := hc.1.2.2; omega⟩
    · exact ⟨hc.2.1, by have := hc.2.2; omega⟩
  · rename_i _ _ _ hc _
    simp only [Bool.and_eq_true, decide_eq_true_eq, beq_iff_eq] at hc
    rcases (by simp at h2; omega : j = 1 ∨ j = 2 ∨ j = 3) with rfl | rfl | rfl
    · exact ⟨hc.1.1.2.1, by have := hc.1.1.2.2; omega⟩
    · exact ⟨hc.1.2.1, by have := hc.1.2.2; omega⟩
    · exact ⟨hc.2.1, by have := hc.2.2; omega⟩

theorem drop_at (s : ByteArray) (k : Nat) (h : k < s.size) : (tl s).drop k = s[k] :: (tl s).drop (k + 1) := by
  unfold tl
  rw [List.drop_eq_getElem_cons (by simpa using h)]; rfl
theorem width_le (s : ByteArray) (pos : Nat) (h : pos < s.size) : pos + (Utf8.decode s pos).2 ≤ s.size := by
  by_cases h1 : (Utf8.decode s pos).2 ≤ 1
  · omega
  · have := (decode_cont s pos ((Utf8.decode s pos).2 - 1) (by omega) (by omega)).1
    omega
def bad (b : UInt8) : Bool := b == 47 || b == 0 || b == 10
def has (l : List UInt8) : Bool := l.any bad
theorem bad_iff (b : UInt8) : bad b = true ↔ b = 47 ∨ b = 0 ∨ b = 10 := by unfold bad; simp [or_assoc]
theorem irune_high (r : Int) (h1 : 128 ≤ r) (w : World) :
    Calls Tryz.prog 79 #[.string ⟨#[47, 0, 10]⟩, .int .i32 r] w fun e w' => e = .returned (.int .i64 (-1)) ∧ Below w.heap.size w w' := by
  by_cases h2 : r = 65533
  · subst h2; exact irune_err w
  · cases hv : Lib.validRune r with
    | true => exact irune_ok r h1 h2 hv w
    | false => exact irune_bad r h1 h2 hv w
theorem irune_low (b : UInt8) (h : b.toNat < 128) (w : World) :
    Calls Tryz.prog 79 #[.string ⟨#[47, 0, 10]⟩, .int .i32 b.toNat] w fun e w' => (∃ n : Int, e = .returned (.int .i64 n) ∧ (0 ≤ n ↔ bad b = true)) ∧ w' = w := by
  refine (Tryz.strings_IndexRune_ascii ⟨#[47, 0, 10]⟩ b.toNat w (by omega) (by omega)).mono ?_
  rintro e w' ⟨rfl, rfl⟩
  have hb : ((b.toNat : Int)).toNat.toUInt8 = b := by simp
  rw [hb]
  have hc := Lib.contains_iff_indexByte [47, 0, 10] b
  refine ⟨⟨_, rfl, ?_⟩, rfl⟩
  have e1 : (0 ≤ Lib.indexByte (⟨#[47, 0, 10]⟩ : ByteArray).data.toList b) ↔ ([47, 0, 10] : List UInt8).contains b = true := by rw [hc]; simp
  rw [e1, bad_iff]
  simp

/-- none of the bytes ahead of k is 47, 0 or 10 -/
def NoH (s : ByteArray) (k : Nat) : Prop := has ((tl s).take k) = false
theorem noH_more (s : ByteArray) (k n : Nat) (h : NoH s k) (hn : has (((tl s).drop k).take n) = false) : NoH s (k + n) := by
  unfold NoH has at *
  rw [List.take_add, List.any_append, h, hn]
  rfl
theorem noH_end (s : ByteArray) (h : NoH s s.size) : has (tl s) = false := by
  unfold NoH at h
  rwa [List.take_of_length_le (by rw [tl_len]; omega)] at h
theorem has_at (s : ByteArray) (k : Nat) (h : k < s.size) (hb : bad s[k] = true) : has (tl s) = true := by
  have hm : s[k] ∈ tl s := List.getElem_mem (by rw [tl_len]; exact h)
  exact List.any_eq_true.2 ⟨_, hm, hb⟩
theorem has_one (s : ByteArray) (k : Nat) (h : k < s.size) (hb : bad s[k] = false) : has (((tl s).drop k).take 1) = false := by
  rw [drop_at s k h]
  unfold has
  simp [hb]
theorem has_high (s : ByteArray) (pos : Nat) (h : pos < s.size) (hh : 128 ≤ s[pos].toNat) : has (((tl s).drop pos).take (Utf8.decode s pos).2) = false := by
  have key : ∀ b ∈ ((tl s).drop pos).take (Utf8.decode s pos).2, 128 ≤ b.toNat := by
    intro b hm
    obtain ⟨j, hj, e⟩ := List.mem_iff_getElem.1 hm
    rw [List.length_take, List.length_drop, tl_len] at hj
    rw [List.getElem_take, List.getElem_drop] at e
    have e2 : s[pos + j]'(by omega) = b := e
    by_cases h0 : j = 0
    · subst h0; rw [← e2]; exact hh
    · have := (decode_cont s pos j (by omega) (by omega)).2
      rwa [get_eq s (pos + j) (by omega), e2] at this
  unfold has
  rw [List.any_eq_false]
  intro b hm
  have := key b hm
  rw [bad_iff]
  rintro (rfl | rfl | rfl) <;> exact absurd this (by decide)
set_option maxRecDepth 100000 in
set_option maxHeartbeats 2000000 in
theorem iany_short (s : ByteArray) (hs : s.size ≤ 8) (w : World) :
    Calls Tryz.prog 66 #[.string s, .string ⟨#[47, 0, 10]⟩] w fun e w' => (∃ n : Int, e = .returned (.int .i64 n) ∧ (0 ≤ n ↔ has (tl s) = true)) ∧ Below w.heap.size w w' := by
  have h8 : decide ((8 : Int) < (s.size : Int)) = false := decide_eq_false (by omega)
  have kA := fun w => Tryz.strings_shouldUseASCIISet s.size w
  simp only [h8] at kA
  clear h8
  go_enter Tryz.func66, Tryz.ntmps66
  go_wp2_with (go_at_call 80; refine (kA _).mono ?_; rintro e w0 ⟨rfl, hw0⟩)
  obtain rfl : w0 = w := hw0
  go_wp2
  go_loopw [] (fun wr => ∃ pos : Nat, pos ≤ s.size ∧ wr.heap[w0.heap.size]? = some (.stringIter s pos) ∧ Below w0.heap.size w0 wr ∧ Hid (NoH s pos)) (fun wr => s.size - wr.iterPos w0.heap.size)
  case atStart => exact ⟨0, Nat.zero_le _, World.iter_heap w0 s 0, (Below.refl _ w0).alloc (Nat.le_refl _) _, rfl⟩
  case round =>
    obtain ⟨pos, hp, hit, hB, HN⟩ := hrel
    have hsz : w0.heap.size < wr.heap.size := (Array.getElem?_eq_some_iff.1 hit).1
    have hme : wr.iterPos w0.heap.size = pos := by simp only [World.iterPos, hit]
    by_cases hlt : pos < s.size
    · by_cases ha : (s[pos]'hlt).toNat < 128
      · have hnx := fun ty => Lib.run_next_ascii_at (P := Tryz.prog) wr w0.heap.size s pos ty hit hlt ha
        have hit1 := Lib.iterAt_heap wr w0.heap.size s pos (pos + 1) hit
        have hB1 := Lib.below_iterAt hB (Nat.le_refl _) s (pos + 1)
        have kL := fun w => irune_low s[pos] ha w
        generalize wr.iterAt w0.heap.size s (pos + 1) = W1 at hnx hit1 hB1
        cases hb : bad s[pos] with
        | true =>
          have HF := hide' (has_at s pos hlt hb)
          simp only [hb, iff_true] at kL
          clear hb HN ha
          go_wp2_with fail
          refine (kL _).mono ?_
          rintro e w1 ⟨⟨n, rfl, hn⟩, rfl⟩
          go_wp2
          go_ret
          exact ⟨⟨pos, rfl, iff_of_true (by omega) HF.out⟩, hB1⟩
        | false =>
          have HN1 := hide' (noH_more s pos 1 HN.out (has_one s pos hlt hb))
          simp only [hb, Bool.false_eq_true, iff_false] at kL
          clear hb HN ha
          go_wp2_with fail
          refine (kL _).mono ?_
          rintro e w1 ⟨⟨n, rfl, hn⟩, rfl⟩
          go_wp2
          exact ⟨⟨pos + 1, by omega, hit1, hB1, HN1⟩, by rw [hme]; simp only [World.iterPos, hit1]; omega⟩
      · have hh : 128 ≤ (s[pos]'hlt).toNat := by omega
        have hnx := fun ty => Lib.run_next_any_at (P := Tryz.prog) wr w0.heap.size s pos ty hit hlt
        have hd := decode_high s pos hlt hh
        have hw2 := width_le s pos hlt
        have HN1 := hide' (noH_more s pos _ HN.out (has_high s pos hlt hh))
        have hit1 := Lib.iterAt_heap wr w0.heap.size s pos (pos + (Utf8.decode s pos).2) hit
        have hB1 := Lib.below_iterAt hB (Nat.le_refl _) s (pos + (Utf8.decode s pos).2)
        generalize wr.iterAt w0.heap.size s (pos + (Utf8.decode s pos).2) = W1 at hnx hit1 hB1
        generalize (Utf8.decode s pos).2 = wd at hw2 HN1 hit1 hd
        generalize (Utf8.decode s pos).1 = r at hd hnx
        have kH := fun w => irune_high r (by omega) w
        clear ha hh HN
        go_wp2_with fail
        refine (kH _).mono ?_
        rintro e w1 ⟨rfl, hb1⟩
        have hs1 : w0.heap.size < W1.heap.size := (Array.getElem?_eq_some_iff.1 hit1).1
        have hit2 : w1.heap[w0.heap.size]? = some (.stringIter s (pos + wd)) := (hb1.block _ hs1).trans hit1
        have hB2 := hB1.trans (hb1.mono hB1.size)
        clear hit1 hb1 hB1
        go_wp2
        exact ⟨⟨pos + wd, hw2, hit2, hB2, HN1⟩, by rw [hme]; simp only [World.iterPos, hit2]; omega⟩
    · obtain rfl : pos = s.size := by omega
      have hnx := fun ty => Lib.run_next_end_at (P := Tryz.prog) wr w0.heap.size s s.size ty hit hlt
      have HF := hide' (noH_end s HN.out)
      clear HN
      go_wp2
      go_ret
      exact ⟨⟨-1, rfl, by rw [HF.out]; simp⟩, hB⟩
theorem indexAny_has (l : List UInt8) : 0 ≤ Lib.indexAny l [47, 0, 10] ↔ has l = true := by
  induction l with
  | nil => simp [Lib.indexAny, has]
  | cons b r ih =>
    by_cases hb : ([47, 0, 10] : List UInt8).contains b = true
    · have e1 : has (b :: r) = true := List.any_eq_true.2 ⟨b, List.mem_cons_self, by rw [bad_iff]; simpa using hb⟩
      rw [Lib.indexAny, if_pos hb, e1]
      simp
    · have e2 : has (b :: r) = has r := by
        unfold has
        rw [List.any_cons]
        have : bad b = false := by
          cases h : bad b with
          | false => rfl
          | true => rw [bad_iff] at h; exact absurd (by simpa using h) hb
        rw [this, Bool.false_or]
      rw [e2, ← ih, Lib.indexAny, if_neg hb]
      by_cases hm : Lib.indexAny r [47, 0, 10] = -1
      · simp [hm]
      · rw [if_neg (by simpa using hm)]
        omega
theorem small3 : ∀ (j : Nat) b, (⟨#[47, 0, 10]⟩ : ByteArray).data.toList[j]? = some b → b.toNat < 128 := by
  intro j b h
  have hm : b ∈ ([47, 0, 10] : List UInt8) := List.mem_of_getElem? h
  rcases (by simpa using hm : b = 47 ∨ b = 0 ∨ b = 10) with rfl | rfl | rfl <;> decide
theorem zero107 : (Tryz.prog.info? 107).map (fun i : TypeInfo => (i.zero, i.size, i.bytes)) = some (some (.agg (Array.replicate 256 (.bool false))), 256, 256) := by kernel_rfl
theorem zv107 (w : World) : (zeroValue 107).run Tryz.prog w = .ok (.agg (Array.replicate 256 (.bool false))) w := by
  obtain ⟨i, hi, hz0, hz1, hz2⟩ := info_parts zero107
  simp [zeroValue, typeInfo, hi, hz0]
theorem iany_any (s : ByteArray) (hs : s.size ≤ 1000000) (w : World) :
    Calls Tryz.prog 66 #[.string s, .string ⟨#[47, 0, 10]⟩] w fun e w' => (∃ n : Int, e = .returned (.int .i64 n) ∧ (0 ≤ n ↔ has (tl s) = true)) ∧ Below w.heap.size w w' := by
  by_cases h8 : s.size ≤ 8
  · exact iany_short s h8 w
  · refine (Tryz.strings_IndexAny_long zv107 s ⟨#[47, 0, 10]⟩ w (by decide) (by omega) (by omega) (by decide) small3).mono ?_
    rintro e w' ⟨rfl, rfl⟩
    exact ⟨⟨_, rfl, indexAny_has _⟩, ((Below.refl _ _).alloc (Nat.le_refl _) _).alloc (by simp) _⟩
theorem contains_any (s : ByteArray) (hs : s.size ≤ 1000000) (w : World) :
    Calls Tryz.prog 56 #[.string s, .string ⟨#[47, 0, 10]⟩] w fun e w' => e = .returned (.bool (has (tl s))) ∧ Below w.heap.size w w' := by
  have q := fun w => iany_any s hs w
  cases hh : has (tl s) with
  | true =>
    simp only [hh, iff_true] at q
    go_enter Tryz.func56, Tryz.ntmps56
    go_wp2_with fail
    refine (q _).mono ?_
    rintro e w1 ⟨⟨n, rfl, hn⟩, hb⟩
    go_wp2
    go_ret
    exact ⟨rfl, hb⟩
  | false =>
    simp only [hh, Bool.false_eq_true, iff_false] at q
    go_enter Tryz.func56, Tryz.ntmps56
    go_wp2_with fail
    refine (q _).mono ?_
    rintro e w1 ⟨⟨n, rfl, hn⟩, hb⟩
    have hd : decide (0 ≤ n) = false := decide_eq_false (by omega)
    go_wp2
    go_ret
    exact ⟨by first | rfl | (rw [← hd]; rfl), hb⟩
end Go.Proofs.YtcijjigafcpcpaaGreatDoor
