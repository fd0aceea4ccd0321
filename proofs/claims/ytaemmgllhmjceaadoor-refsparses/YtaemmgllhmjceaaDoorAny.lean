/- The contract of strings.IndexAny at the three blanks, whatever the text is: the place of the first one. -/
import Derived.Test.YtaemmgllhmjceaaDoorRune
import Derived.Laws.RangeAny
namespace Go.Proofs.YtaemmgllhmjceaaDoor
open Go.RowKit Go.Shelf

theorem get_eq (s : ByteArray) (k : Nat) (h : k < s.size) : s.get! k = s[k] := by
  simp [ByteArray.get!, getElem!_pos, h]
  rfl
theorem decode_cont (s : ByteArray) (pos : Nat) : ∀ j, 1 ≤ j → j < (Utf8.decode s pos).2 → pos + j < s.size ∧ 128 ≤ (s.get! (pos + j)).toNat := by
  intro j h1 h2
  unfold Utf8.decode at h2
  dsimp only at h2
  repeat' split at h2
  all_goals try (exfalso; simp at h2; omega)
  · rename_i _ hc _
    simp only [Bool.and_eq_true, decide_eq_true_eq, beq_iff_eq] at hc
    obtain rfl : j = 1 := by simp at h2; omega
    exact ⟨hc.2.1, by have := hc.2.2; omega⟩
  · rename_i _ _ hc _
    simp only [Bool.and_eq_true, decide_eq_true_eq, beq_iff_eq] at hc
    rcases (by simp at h2; omega : j = 1 ∨ j = 2) with rfl | rfl
    · exact ⟨hc.1.2.1, by have := hc.1.2.2; omega⟩
    · exact ⟨hc.2.1, by have := hc.2.2; omega⟩
  · rename_i _ _ _ hc _
    simp only [Bool.and_eq_true, decide_eq_true_eq, beq_iff_eq] at hc
    rcases (by simp at h2; omega : j = 1 ∨ j = 2 ∨ j = 3) with rfl | rfl | rfl
    · exact ⟨hc.1.1.2.1, by have := hc.1.1.2.2; omega⟩
    · exact ⟨hc.1.2.1, by have := hc.1.2.2; omega⟩
    · exact ⟨hc.2.1, by have := hc.2.2; omega⟩

theorem width_le (s : ByteArray) (pos : Nat) (h : pos < s.size) : pos + (Utf8.decode s pos).2 ≤ s.size := by
  by_cases h1 : (Utf8.decode s pos).2 ≤ 1
  · omega
  · have := (decode_cont s pos ((Utf8.decode s pos).2 - 1) (by omega) (by omega)).1
    omega
/-- no blank -/
def nb (c : UInt8) : Bool := !bl c
theorem bl_has (b : UInt8) : ([32, 9, 10] : List UInt8).contains b = bl b := by
  rw [Bool.eq_iff_iff]
  constructor
  · intro h
    have : b = 32 ∨ b = 9 ∨ b = 10 := by simpa using h
    rcases this with rfl | rfl | rfl <;> rfl
  · intro h
    rcases bl_yes b h with rfl | rfl | rfl <;> rfl
theorem nb_hi (b : UInt8) (h : 128 ≤ b.toNat) : nb b = true := by
  unfold nb
  cases hb : bl b with
  | false => rfl
  | true => rcases bl_yes b hb with rfl | rfl | rfl <;> exact absurd h (by decide)
/-- the place of the first blank, or -1 -/
def ia (l : List UInt8) : Int := Lib.indexAny l [32, 9, 10]
theorem ia_nil : ia [] = -1 := rfl
theorem ia_blank (b : UInt8) (r : List UInt8) (h : bl b = true) : ia (b :: r) = 0 := by unfold ia; rw [Lib.indexAny, if_pos (by rw [bl_has]; exact h)]
theorem ia_cons (b : UInt8) (r : List UInt8) (h : bl b = false) : ia (b :: r) = if ia r = -1 then -1 else ia r + 1 := by
  unfold ia
  rw [Lib.indexAny, if_neg (by rw [bl_has, h]; simp)]
  simp
theorem ia_skip : ∀ (k : Nat) (l : List UInt8), k ≤ l.length → (l.take k).all nb = true → ia l = if ia (l.drop k) = -1 then -1 else ia (l.drop k) + k
  | 0, l, _, _ => by
    rw [List.drop_zero]
    split
    · assumption
    · simp
  | k + 1, [], h, _ => by simp at h
  | k + 1, b :: r, h, h1 => by
    rw [List.take_succ_cons, List.all_cons, Bool.and_eq_true] at h1
    have hb : bl b = false := by have := h1.1; unfold nb at this; simpa using this
    have ih := ia_skip k r (by simpa using h) h1.2
    rw [ia_cons b r hb, List.drop_succ_cons, ih]
    by_cases h2 : ia (r.drop k) = -1
    · simp [h2]
    · rw [if_neg h2, if_neg h2]
      split
      · have hge : -1 ≤ ia (r.drop k) := by
          unfold ia
          exact Lib.indexAny_ge _ _
        omega
      · omega
theorem irune_high (r : Int) (h1 : 128 ≤ r) (w : World) :
    Calls Tryd.prog 43 #[.string ⟨#[32, 9, 10]⟩, .int .i32 r] w fun e w' => e = .returned (.int .i64 (-1)) ∧ Below w.heap.size w w' := by
  by_cases h2 : r = 65533
  · subst h2; exact irune_err w
  · cases hv : Lib.validRune r with
    | true => exact irune_ok r h1 h2 hv w
    | false => exact irune_bad r h1 h2 hv w
theorem irune_low (b : UInt8) (h : b.toNat < 128) (w : World) :
    Calls Tryd.prog 43 #[.string ⟨#[32, 9, 10]⟩, .int .i32 b.toNat] w fun e w' => (∃ n : Int, e = .returned (.int .i64 n) ∧ (0 ≤ n ↔ bl b = true)) ∧ w' = w := by
  refine (Tryd.strings_IndexRune_ascii ⟨#[32, 9, 10]⟩ b.toNat w (by omega) (by omega)).mono ?_
  rintro e w' ⟨rfl, rfl⟩
  have hb : ((b.toNat : Int)).toNat.toUInt8 = b := by simp
  rw [hb]
  have hc := Lib.contains_iff_indexByte [32, 9, 10] b
  refine ⟨⟨_, rfl, ?_⟩, rfl⟩
  have e1 : (0 ≤ Lib.indexByte (⟨#[32, 9, 10]⟩ : ByteArray).data.toList b) ↔ ([32, 9, 10] : List UInt8).contains b = true := by rw [hc]; simp
  rw [e1, bl_has]

/-- none of the bytes ahead of k is a blank -/
def NoB (s : ByteArray) (k : Nat) : Prop := ((tl s).take k).all nb = true
theorem noB_more (s : ByteArray) (k n : Nat) (h : NoB s k) (hn : (((tl s).drop k).take n).all nb = true) : NoB s (k + n) := by
  unfold NoB at *
  rw [List.take_add, List.all_append, h, hn]
  rfl
theorem ia_end (s : ByteArray) (h : NoB s s.size) : ia (tl s) = -1 := by
  unfold NoB at h
  have := ia_skip s.size (tl s) (by rw [tl_len]; omega) h
  rw [drop_end s s.size (Nat.le_refl _), ia_nil] at this
  simpa using this
theorem ia_at (s : ByteArray) (k : Nat) (h : k < s.size) (hN : NoB s k) (hb : bl s[k] = true) : ia (tl s) = k := by
  unfold NoB at hN
  have := ia_skip k (tl s) (by rw [tl_len]; omega) hN
  rw [drop_at s k h, ia_blank _ _ hb] at this
  simpa using this
theorem nb_one (s : ByteArray) (k : Nat) (h : k < s.size) (hb : bl s[k] = false) : (((tl s).drop k).take 1).all nb = true := by
  rw [drop_at s k h]
  simp [nb, hb]
theorem nb_high (s : ByteArray) (pos : Nat) (h : pos < s.size) (hh : 128 ≤ s[pos].toNat) : (((tl s).drop pos).take (Utf8.decode s pos).2).all nb = true := by
  have key : ∀ b ∈ ((tl s).drop pos).take (Utf8.decode s pos).2, 128 ≤ b.toNat := by
    intro b hm
    obtain ⟨j, hj, e⟩ := List.mem_iff_getElem.1 hm
    rw [List.length_take, List.length_drop, tl_len] at hj
    rw [List.getElem_take, List.getElem_drop] at e
    have e2 : s[pos + j]'(by omega) = b := e
    by_cases h0 : j = 0
    · subst h0; rw [← e2]; exact hh
    · have := (decode_cont s pos j (by omega) (by omega)).2
      rwa [get_eq s (pos + j) (by omega), e2] at this
  rw [List.all_eq_true]
  intro b hm
  exact nb_hi b (key b hm)
set_option maxRecDepth 100000 in
set_option maxHeartbeats 2000000 in
theorem iany_short (s : ByteArray) (hs : s.size ≤ 8) (w : World) :
    Calls Tryd.prog 33 #[.string s, .string ⟨#[32, 9, 10]⟩] w fun e w' => e = .returned (.int .i64 (ia (tl s))) ∧ Below w.heap.size w w' := by
  have h8 : decide ((8 : Int) < (s.size : Int)) = false := decide_eq_false (by omega)
  have kA := fun w => Tryd.strings_shouldUseASCIISet s.size w
  simp only [h8] at kA
  clear h8
  go_enter Tryd.func33, Tryd.ntmps33
  go_wp2_with (go_at_call 44; refine (kA _).mono ?_; rintro e w0 ⟨rfl, hw0⟩)
  obtain rfl : w0 = w := hw0
  go_wp2
  go_loopw [] (fun wr => ∃ pos : Nat, pos ≤ s.size ∧ wr.heap[w0.heap.size]? = some (.stringIter s pos) ∧ Below w0.heap.size w0 wr ∧ Hid (NoB s pos)) (fun wr => s.size - wr.iterPos w0.heap.size)
  case atStart => exact ⟨0, Nat.zero_le _, World.iter_heap w0 s 0, (Below.refl _ w0).alloc (Nat.le_refl _) _, rfl⟩
  case round =>
    obtain ⟨pos, hp, hit, hB, HN⟩ := hrel
    have hsz : w0.heap.size < wr.heap.size := (Array.getElem?_eq_some_iff.1 hit).1
    have hme : wr.iterPos w0.heap.size = pos := by simp only [World.iterPos, hit]
    by_cases hlt : pos < s.size
    · by_cases ha : (s[pos]'hlt).toNat < 128
      · have hnx := fun ty => Lib.run_next_ascii_at (P := Tryd.prog) wr w0.heap.size s pos ty hit hlt ha
        have hit1 := Lib.iterAt_heap wr w0.heap.size s pos (pos + 1) hit
        have hB1 := Lib.below_iterAt hB (Nat.le_refl _) s (pos + 1)
        have kL := fun w => irune_low s[pos] ha w
        generalize wr.iterAt w0.heap.size s (pos + 1) = W1 at hnx hit1 hB1
        cases hb : bl s[pos] with
        | true =>
          have HF := hide' (ia_at s pos hlt HN.out hb)
          simp only [hb, iff_true] at kL
          clear hb HN ha
          go_wp2_with fail
          refine (kL _).mono ?_
          rintro e w1 ⟨⟨n, rfl, hn⟩, rfl⟩
          go_wp2
          go_ret
          rw [HF.out]
          exact ⟨rfl, hB1⟩
        | false =>
          have HN1 := hide' (noB_more s pos 1 HN.out (nb_one s pos hlt hb))
          simp only [hb, Bool.false_eq_true, iff_false] at kL
          clear hb HN ha
          go_wp2_with fail
          refine (kL _).mono ?_
          rintro e w1 ⟨⟨n, rfl, hn⟩, rfl⟩
          go_wp2
          exact ⟨⟨pos + 1, by omega, hit1, hB1, HN1⟩, by rw [hme]; simp only [World.iterPos, hit1]; omega⟩
      · have hh : 128 ≤ (s[pos]'hlt).toNat := by omega
        have hnx := fun ty => Lib.run_next_any_at (P := Tryd.prog) wr w0.heap.size s pos ty hit hlt
        have hd := decode_high s pos hlt hh
        have hw2 := width_le s pos hlt
        have HN1 := hide' (noB_more s pos _ HN.out (nb_high s pos hlt hh))
        have hit1 := Lib.iterAt_heap wr w0.heap.size s pos (pos + (Utf8.decode s pos).2) hit
        have hB1 := Lib.below_iterAt hB (Nat.le_refl _) s (pos + (Utf8.decode s pos).2)
        generalize wr.iterAt w0.heap.size s (pos + (Utf8.decode s pos).2) = W1 at hnx hit1 hB1
        generalize (Utf8.decode s pos).2 = wd at hw2 HN1 hit1 hd
        generalize (Utf8.decode s pos).1 = r at hd hnx
        have kH := fun w => irune_high r (by omega) w
        clear ha hh HN
        go_wp2_with fail
        refine (kH _).mono ?_
        rintro e w1 ⟨rfl, hb1⟩
        have hs1 : w0.heap.size < W1.heap.size := (Array.getElem?_eq_some_iff.1 hit1).1
        have hit2 : w1.heap[w0.heap.size]? = some (.stringIter s (pos + wd)) := (hb1.block _ hs1).trans hit1
        have hB2 := hB1.trans (hb1.mono hB1.size)
        clear hit1 hb1 hB1
        go_wp2
        exact ⟨⟨pos + wd, hw2, hit2, hB2, HN1⟩, by rw [hme]; simp only [World.iterPos, hit2]; omega⟩
    · obtain rfl : pos = s.size := by omega
      have hnx := fun ty => Lib.run_next_end_at (P := Tryd.prog) wr w0.heap.size s s.size ty hit hlt
      have HF := hide' (ia_end s HN.out)
      clear HN
      go_wp2
      go_ret
      rw [HF.out]
      exact ⟨rfl, hB⟩
theorem small3 : ∀ (j : Nat) b, (⟨#[32, 9, 10]⟩ : ByteArray).data.toList[j]? = some b → b.toNat < 128 := by
  intro j b h
  have hm : b ∈ ([32, 9, 10] : List UInt8) := List.mem_of_getElem? h
  rcases (by simpa using hm : b = 32 ∨ b = 9 ∨ b = 10) with rfl | rfl | rfl <;> decide
theorem zero75 : (Tryd.prog.info? 75).map (fun i : TypeInfo => (i.zero, i.size, i.bytes)) = some (some (.agg (Array.replicate 256 (.bool false))), 256, 256) := by kernel_rfl
theorem zv75 (w : World) : (zeroValue 75).run Tryd.prog w = .ok (.agg (Array.replicate 256 (.bool false))) w := by
  obtain ⟨i, hi, hz0, hz1, hz2⟩ := info_parts zero75
  simp [zeroValue, typeInfo, hi, hz0]
theorem iany_any (s : ByteArray) (hs : s.size ≤ 1000000) (w : World) :
    Calls Tryd.prog 33 #[.string s, .string ⟨#[32, 9, 10]⟩] w fun e w' => e = .returned (.int .i64 (ia (tl s))) ∧ Below w.heap.size w w' := by
  by_cases h8 : s.size ≤ 8
  · exact iany_short s h8 w
  · refine (Tryd.strings_IndexAny_long zv75 s ⟨#[32, 9, 10]⟩ w (by decide) (by omega) (by omega) (by decide) small3).mono ?_
    rintro e w' ⟨rfl, rfl⟩
    exact ⟨rfl, ((Below.refl _ _).alloc (Nat.le_refl _) _).alloc (by simp) _⟩
end Go.Proofs.YtaemmgllhmjceaaDoor
