/- The contracts of strings.IndexAny and ContainsAny at the bytes 0 and 10, whatever the text is, and of path.validName. -/
import Derived.Test.YtamohpcdchhbbaaGreatDoorRune
namespace Go.Proofs.YtamohpcdchhbbaaGreatDoor
open Go.RowKit Go.Shelf

def has (l : List UInt8) : Bool := l.contains 0 || l.contains 10
theorem okn_has (x : List UInt8) : okn x = (decide (x.length ≤ 255) && !has x) := by unfold okn has; rw [Bool.not_or, Bool.and_assoc]
theorem irune_high (r : Int) (h1 : 128 ≤ r) (w : World) :
    Calls Tryz.prog 139 #[.string ⟨#[0, 10]⟩, .int .i32 r] w fun e w' => e = .returned (.int .i64 (-1)) ∧ Below w.heap.size w w' := by
  by_cases h2 : r = 65533
  · subst h2; exact irune_err w
  · cases hv : Lib.validRune r with
    | true => exact irune_ok r h1 h2 hv w
    | false => exact irune_bad r h1 h2 hv w
theorem irune_low (b : UInt8) (h : b.toNat < 128) (w : World) :
    Calls Tryz.prog 139 #[.string ⟨#[0, 10]⟩, .int .i32 b.toNat] w fun e w' => (∃ n : Int, e = .returned (.int .i64 n) ∧ (0 ≤ n ↔ b = 0 ∨ b = 10)) ∧ w' = w := by
  refine (Tryz.strings_IndexRune_ascii ⟨#[0, 10]⟩ b.toNat w (by omega) (by omega)).mono ?_
  rintro e w' ⟨rfl, rfl⟩
  have hb : ((b.toNat : Int)).toNat.toUInt8 = b := by simp
  rw [hb]
  have hc := Lib.contains_iff_indexByte [0, 10] b
  refine ⟨⟨_, rfl, ?_⟩, rfl⟩
  have e1 : (0 ≤ Lib.indexByte (⟨#[0, 10]⟩ : ByteArray).data.toList b) ↔ ([0, 10] : List UInt8).contains b = true := by rw [hc]; simp
  rw [e1]
  simp

/-- none of the bytes ahead of k is 0 or 10 -/
def NoH (s : ByteArray) (k : Nat) : Prop := has ((tl s).take k) = false
theorem has_iff (l : List UInt8) : has l = false ↔ 0 ∉ l ∧ 10 ∉ l := by unfold has; simp
theorem noH_more (s : ByteArray) (k n : Nat) (h : NoH s k) (hn : has (((tl s).drop k).take n) = false) : NoH s (k + n) := by
  unfold NoH at h ⊢
  rw [has_iff] at h hn ⊢
  rw [List.take_add]
  exact ⟨fun hm => (List.mem_append.1 hm).elim h.1 hn.1, fun hm => (List.mem_append.1 hm).elim h.2 hn.2⟩
theorem noH_end (s : ByteArray) (h : NoH s s.size) : has (tl s) = false := by
  unfold NoH at h
  rwa [List.take_of_length_le (by rw [tl_len]; omega)] at h
theorem has_at (s : ByteArray) (k : Nat) (h : k < s.size) (hb : s[k] = 0 ∨ s[k] = 10) : has (tl s) = true := by
  have hm : s[k] ∈ tl s := List.getElem_mem (by rw [tl_len]; exact h)
  unfold has
  rcases hb with e | e <;> rw [e] at hm
  · simp [hm]
  · simp [hm]
theorem has_one (s : ByteArray) (k : Nat) (h : k < s.size) (hb : ¬ (s[k] = 0 ∨ s[k] = 10)) : has (((tl s).drop k).take 1) = false := by
  rw [drop_at s k h]
  unfold has
  simp
  exact ⟨fun e => hb (.inl e.symm), fun e => hb (.inr e.symm)⟩
theorem has_high (s : ByteArray) (pos : Nat) (h : pos < s.size) (hh : 128 ≤ s[pos].toNat) : has (((tl s).drop pos).take (Utf8.decode s pos).2) = false := by
  have key : ∀ b ∈ ((tl s).drop pos).take (Utf8.decode s pos).2, 128 ≤ b.toNat := by
    intro b hm
    obtain ⟨j, hj, e⟩ := List.mem_iff_getElem.1 hm
    rw [List.length_take, List.length_drop, tl_len] at hj
    rw [List.getElem_take, List.getElem_drop] at e
    have e2 : s[pos + j]'(by omega) = b := e
    by_cases h0 : j = 0
    · subst h0; rw [← e2]; exact hh
    · have := (decode_cont s pos j (by omega) (by omega)).2
      rwa [get_eq s (pos + j) (by omega), e2] at this
  unfold has
  rw [Bool.or_eq_false_iff]
  constructor
  · cases hc : (((tl s).drop pos).take (Utf8.decode s pos).2).contains 0 with
    | false => rfl
    | true => exact absurd (key 0 (by simpa using hc)) (by decide)
  · cases hc : (((tl s).drop pos).take (Utf8.decode s pos).2).contains 10 with
    | false => rfl
    | true => exact absurd (key 10 (by simpa using hc)) (by decide)

set_option maxRecDepth 100000 in
set_option maxHeartbeats 2000000 in
theorem iany_short (s : ByteArray) (hs : s.size ≤ 8) (w : World) :
    Calls Tryz.prog 135 #[.string s, .string ⟨#[0, 10]⟩] w fun e w' => (∃ n : Int, e = .returned (.int .i64 n) ∧ (0 ≤ n ↔ has (tl s) = true)) ∧ Below w.heap.size w w' := by
  have h8 : decide ((8 : Int) < (s.size : Int)) = false := decide_eq_false (by omega)
  have kA := fun w => Tryz.strings_shouldUseASCIISet s.size w
  simp only [h8] at kA
  clear h8
  go_enter Tryz.func135, Tryz.ntmps135
  go_wp2_with (go_at_call 140; refine (kA _).mono ?_; rintro e w0 ⟨rfl, hw0⟩)
  obtain rfl : w0 = w := hw0
  go_wp2
  go_loopw [] (fun wr => ∃ pos : Nat, pos ≤ s.size ∧ wr.heap[w0.heap.size]? = some (.stringIter s pos) ∧ Below w0.heap.size w0 wr ∧ Hid (NoH s pos)) (fun wr => s.size - wr.iterPos w0.heap.size)
  case atStart => exact ⟨0, Nat.zero_le _, World.iter_heap w0 s 0, (Below.refl _ w0).alloc (Nat.le_refl _) _, rfl⟩
  case round =>
    obtain ⟨pos, hp, hit, hB, HN⟩ := hrel
    have hsz : w0.heap.size < wr.heap.size := (Array.getElem?_eq_some_iff.1 hit).1
    have hme : wr.iterPos w0.heap.size = pos := by simp only [World.iterPos, hit]
    by_cases hlt : pos < s.size
    · by_cases ha : (s[pos]'hlt).toNat < 128
      · have hnx := fun ty => Lib.run_next_ascii_at (P := Tryz.prog) wr w0.heap.size s pos ty hit hlt ha
        have hit1 := Lib.iterAt_heap wr w0.heap.size s pos (pos + 1) hit
        have hB1 := Lib.below_iterAt hB (Nat.le_refl _) s (pos + 1)
        have kL := fun w => irune_low s[pos] ha w
        generalize wr.iterAt w0.heap.size s (pos + 1) = W1 at hnx hit1 hB1
        by_cases hb : s[pos] = 0 ∨ s[pos] = 10
        · have HF := hide' (has_at s pos hlt hb)
          simp only [hb, iff_true] at kL
          clear hb HN ha
          go_wp2_with fail
          refine (kL _).mono ?_
          rintro e w1 ⟨⟨n, rfl, hn⟩, rfl⟩
          go_wp2
          go_ret
          exact ⟨⟨pos, rfl, iff_of_true (by omega) HF.out⟩, hB1⟩
        · have HN1 := hide' (noH_more s pos 1 HN.out (has_one s pos hlt hb))
          simp only [hb, iff_false] at kL
          clear hb HN ha
          go_wp2_with fail
          refine (kL _).mono ?_
          rintro e w1 ⟨⟨n, rfl, hn⟩, rfl⟩
          go_wp2
          exact ⟨⟨pos + 1, by omega, hit1, hB1, HN1⟩, by rw [hme]; simp only [World.iterPos, hit1]; omega⟩
      · have hh : 128 ≤ (s[pos]'hlt).toNat := by omega
        have hnx := fun ty => Lib.run_next_any_at (P := Tryz.prog) wr w0.heap.size s pos ty hit hlt
        have hd := decode_high s pos hlt hh
        have hw2 := width_le s pos hlt
        have HN1 := hide' (noH_more s pos _ HN.out (has_high s pos hlt hh))
        have hit1 := Lib.iterAt_heap wr w0.heap.size s pos (pos + (Utf8.decode s pos).2) hit
        have hB1 := Lib.below_iterAt hB (Nat.le_refl _) s (pos + (Utf8.decode s pos).2)
        generalize wr.iterAt w0.heap.size s (pos + (Utf8.decode s pos).2) = W1 at hnx hit1 hB1
        generalize (Utf8.decode s pos).2 = wd at hw2 HN1 hit1 hd
        generalize (Utf8.decode s pos).1 = r at hd hnx
        have kH := fun w => irune_high r (by omega) w
        clear ha hh HN
        go_wp2_with fail
        refine (kH _).mono ?_
        rintro e w1 ⟨rfl, hb1⟩
        have hs1 : w0.heap.size < W1.heap.size := (Array.getElem?_eq_some_iff.1 hit1).1
        have hit2 : w1.heap[w0.heap.size]? = some (.stringIter s (pos + wd)) := (hb1.block _ hs1).trans hit1
        have hB2 := hB1.trans (hb1.mono hB1.size)
        clear hit1 hb1 hB1
        go_wp2
        exact ⟨⟨pos + wd, hw2, hit2, hB2, HN1⟩, by rw [hme]; simp only [World.iterPos, hit2]; omega⟩
    · obtain rfl : pos = s.size := by omega
      have hnx := fun ty => Lib.run_next_end_at (P := Tryz.prog) wr w0.heap.size s s.size ty hit hlt
      have HF := hide' (noH_end s HN.out)
      clear HN
      go_wp2
      go_ret
      exact ⟨⟨-1, rfl, by rw [HF.out]; simp⟩, hB⟩
end Go.Proofs.YtamohpcdchhbbaaGreatDoor
