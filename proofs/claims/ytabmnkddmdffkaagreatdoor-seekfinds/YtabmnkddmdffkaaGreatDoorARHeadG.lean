import Derived.Test.YtabmnkddmdffkaaGreatDoorARStrG
import Derived.Test.YtabmnkddmdffkaaGreatDoorAShelf
import Derived.Laws.Runes
import Derived.Deep.QuietTactic
import Derived.BigQuiet
import Derived.Laws.RangeAny
import Derived.Test.YtabmnkddmdffkaaGreatDoorARShelf
import Derived.Lib.SmallJoins
namespace Go.Proofs.YtabmnkddmdffkaaGreatDoor.Arc
open Go.RowKit Go.Shelf
set_option maxRecDepth 100000 in
set_option maxHeartbeats 2000000 in
theorem irune_err (w : World) :
  Calls Tryz.prog 178 #[.string ⟨#[47, 0, 10]⟩, .int .i32 65533] w fun e w' => e = .returned (.int .i64 (-1)) ∧ Below w.heap.size w w' := by
 have n0 := fun ty => run_next_ascii (P := Tryz.prog) w ⟨#[47, 0, 10]⟩ 0 ty (by decide) (by decide)
 have n1 := fun ty => run_next_ascii (P := Tryz.prog) w ⟨#[47, 0, 10]⟩ 1 ty (by decide) (by decide)
 have n2 := fun ty => run_next_ascii (P := Tryz.prog) w ⟨#[47, 0, 10]⟩ 2 ty (by decide) (by decide)
 have n3 := fun ty => run_next_end (P := Tryz.prog) w ⟨#[47, 0, 10]⟩ 3 ty (by decide)
 go_enter Tryz.func178, Tryz.ntmps178
 go_wp2
 go_loopw [] (fun wr => ∃ pos : Nat, pos ≤ 3 ∧ wr = w.iter ⟨#[47, 0, 10]⟩ pos) (fun wr => 3 - wr.iterPos w.heap.size)
 case atStart => exact ⟨0, by omega, rfl⟩
 case round =>
  obtain ⟨pos, hp, rfl⟩ := hrel
  have hme : ∀ p, (w.iter ⟨#[47, 0, 10]⟩ p).iterPos w.heap.size = p := fun p => by simp only [World.iterPos, World.iter_heap]
  rcases (by omega : pos = 0 ∨ pos = 1 ∨ pos = 2 ∨ pos = 3) with rfl | rfl | rfl | rfl
  ·go_wp2
   exact ⟨⟨1, by omega, rfl⟩, by rw [hme, hme]; omega⟩
  ·go_wp2
   exact ⟨⟨2, by omega, rfl⟩, by rw [hme, hme]; omega⟩
  ·go_wp2
   exact ⟨⟨3, by omega, rfl⟩, by rw [hme, hme]; omega⟩
  ·go_wp2
   go_ret
   exact ⟨rfl, (Below.refl _ w).alloc (Nat.le_refl _) _⟩
set_option maxRecDepth 100000 in
set_option maxHeartbeats 2000000 in
theorem irune_bad (r : Int) (h1 : 128 ≤ r) (h2 : r ≠ 65533) (hv : Lib.validRune r = false) (w : World) :
  Calls Tryz.prog 178 #[.string ⟨#[47, 0, 10]⟩, .int .i32 r] w fun e w' => e = .returned (.int .i64 (-1)) ∧ Below w.heap.size w w' := by
 have k1 : ¬ r < 128 := by omega
 have k0 : (0 : Int) ≤ r := by omega
 have k2 : (r == 65533) = false := beq_eq_false_iff_ne.2 h2
 have hV := fun w => Tryz.utf8_ValidRune r w
 simp only [hv] at hV
 clear hv h2
 go_enter Tryz.func178, Tryz.ntmps178
 go_wp2_with (go_at_call 197; refine (hV _).mono ?_; rintro e w' ⟨rfl, rfl⟩)
 go_ret
 exact ⟨rfl, Below.refl _ _⟩
set_option maxRecDepth 100000 in
set_option maxHeartbeats 2000000 in
theorem irune_ok (r : Int) (h1 : 128 ≤ r) (h2 : r ≠ 65533) (hv : Lib.validRune r = true) (w : World) :
  Calls Tryz.prog 178 #[.string ⟨#[47, 0, 10]⟩, .int .i32 r] w fun e w' => e = .returned (.int .i64 (-1)) ∧ Below w.heap.size w w' := by
 have hval : Utf8.valid r = true := by
  simp only [Lib.validRune, decide_eq_true_eq] at hv
  simp only [Utf8.valid, Bool.or_eq_true, Bool.and_eq_true, decide_eq_true_eq]
  omega
 obtain ⟨e1, e2, e3⟩ := encode_facts r hval h1
 have k1 : ¬ r < 128 := by omega
 have k0 : (0 : Int) ≤ r := by omega
 have k2 : (r == 65533) = false := beq_eq_false_iff_ne.2 h2
 have hV := fun w => Tryz.utf8_ValidRune r w
 simp only [hv] at hV
 clear hv h2 hval
 obtain ⟨E, hE⟩ : ∃ E, E = Utf8.encode r := ⟨_, rfl⟩
 rw [← hE] at e1 e2 e3
 have hE' := hE.symm
 obtain ⟨n, hn⟩ : ∃ n, E.size = n + 1 := ⟨E.size - 1, by omega⟩
 have hlt : n < E.size := by omega
 have hb : 128 ≤ (E[n]'hlt).toNat := by have := e3 (by omega); simpa [hn] using this
 obtain ⟨b, hbe⟩ : ∃ b, E[n]'hlt = b := ⟨_, rfl⟩
 rw [hbe] at hb
 have hz : ((E.size : Int) - 1) = n := by omega
 have hn2 : 1 ≤ n := by omega
 have hn3 : n ≤ 3 := by omega
 clear hE e1 e2 e3
 go_enter Tryz.func178, Tryz.ntmps178
 go_wp2_with (go_at_call 197; refine (hV _).mono ?_; rintro e w' ⟨rfl, rfl⟩)
 go_step3
 go_wp2
 go_loopw [9, 10] (fun i f wr => i = .int .i64 n ∧ f = .int .i64 0 ∧ wr = w') (fun _ _ _ => 0)
 case atStart => exact ⟨by go_num, rfl, rfl⟩
 case round =>
  obtain ⟨rfl, rfl, rfl⟩ := hrel
  by_cases h3 : 3 ≤ n
  ·have d1 : ¬ (n : Int) < 3 := by omega
   go_wp2
   go_ret
   exact ⟨rfl, Below.refl _ _⟩
  rcases (by omega : n = 1 ∨ n = 2) with rfl | rfl
  ·have d2 : ((((⟨#[47, 0, 10]⟩ : ByteArray)[1]'(by decide)).toNat : Int) != (b.toNat : Int)) = true := by
    show ((0 : Int) != (b.toNat : Int)) = true
    rw [bne_iff_ne]
    omega
   have q : ∀ w, Calls Tryz.prog 196 #[.string ⟨#[10]⟩, .int .u8 b.toNat] w fun e w' => e = .returned (.int .i64 (-1)) ∧ w' = w := fun w => by
    have q0 := Tryz.strings_IndexByte ⟨#[10]⟩ (b.toNat : Int) w
    have hb2 : ((b.toNat : Int)).toNat.toUInt8 = b := by simp
    rw [hb2] at q0
    have hne : ¬ (10 : UInt8) = b := fun e => by rw [← e] at hb; exact absurd hb (by decide)
    have e1 : Lib.indexByte (⟨#[10]⟩ : ByteArray).data.toList b = -1 := by
     show Lib.indexByte [10] b = -1
     simp [Lib.indexByte, hne]
    rwa [e1] at q0
   have hw2 : IntKind.i64.wrap 2 = 2 := by decide
   have hw3 : IntKind.i64.wrap (1 + 1) = 2 := by decide
   go_wp2
   go_step3
   go_wp2
   go_region
   go_wp2
   go_quiet ((go_at_call 196; exact (q _).mono fun _ _ h => ⟨h.1, _, h.2⟩))
   go_wp2
   rw [Exit.noGoto_ret]
   go_wp2
   try rw [Exit.noGoto_ret]
   go_ret
   exact ⟨rfl, ⟨rfl, rfl, rfl, Nat.le_refl _, fun _ _ => rfl⟩⟩
  ·have d2 : ((((⟨#[47, 0, 10]⟩ : ByteArray)[2]'(by decide)).toNat : Int) != (b.toNat : Int)) = true := by
    show ((10 : Int) != (b.toNat : Int)) = true
    rw [bne_iff_ne]
    omega
   have q : ∀ w, Calls Tryz.prog 196 #[.string ByteArray.empty, .int .u8 b.toNat] w fun e w' => e = .returned (.int .i64 (-1)) ∧ w' = w := fun w => Tryz.strings_IndexByte _ _ w
   have hw2 : IntKind.i64.wrap 3 = 3 := by decide
   have hw3 : IntKind.i64.wrap (2 + 1) = 3 := by decide
   go_wp2
   go_step3
   go_wp2
   go_region
   go_wp2
   go_quiet ((go_at_call 196; exact (q _).mono fun _ _ h => ⟨h.1, _, h.2⟩))
   go_wp2
   rw [Exit.noGoto_ret]
   go_wp2
   try rw [Exit.noGoto_ret]
   go_ret
   exact ⟨rfl, ⟨rfl, rfl, rfl, Nat.le_refl _, fun _ _ => rfl⟩⟩
end Go.Proofs.YtabmnkddmdffkaaGreatDoor.Arc
namespace Go.Proofs.YtabmnkddmdffkaaGreatDoor.Arc
open Go.RowKit Go.Shelf
theorem get_eq (s : ByteArray) (k : Nat) (h : k < s.size) : s.get! k = s[k] := by
 simp [ByteArray.get!, getElem!_pos, h]
 rfl
theorem decode_cont (s : ByteArray) (pos : Nat) : ∀ j, 1 ≤ j → j < (Utf8.decode s pos).2 → pos + j < s.size ∧ 128 ≤ (s.get! (pos + j)).toNat := by
 intro j h1 h2
 unfold Utf8.decode at h2
 dsimp only at h2
 repeat' split at h2
 all_goals try (exfalso; simp at h2; omega)
 ·rename_i _ hc _
  simp only [Bool.and_eq_true, decide_eq_true_eq, beq_iff_eq] at hc
  obtain rfl : j = 1 := by simp at h2; omega
  exact ⟨hc.2.1, by have := hc.2.2; omega⟩
 ·rename_i _ _ hc _
  simp only [Bool.and_eq_true, decide_eq_true_eq, beq_iff_eq] at hc
  rcases (by simp at h2; omega : j = 1 ∨ j = 2) with rfl | rfl
  ·exact ⟨hc.1.2.1, by have := hc.1.2.2; omega⟩
  ·exact ⟨hc.2.1, by have := hc.2.2; omega⟩
 ·rename_i _ _ _ hc _
  simp only [Bool.and_eq_true, decide_eq_true_eq, beq_iff_eq] at hc
  rcases (by simp at h2; omega : j = 1 ∨ j = 2 ∨ j = 3) with rfl | rfl | rfl
  ·exact ⟨hc.1.1.2.1, by have := hc.1.1.2.2; omega⟩
  ·exact ⟨hc.1.2.1, by have := hc.1.2.2; omega⟩
  ·exact ⟨hc.2.1, by have := hc.2.2; omega⟩
theorem drop_at (s : ByteArray) (k : Nat) (h : k < s.size) : (tl s).drop k = s[k] :: (tl s).drop (k + 1) := by
 unfold tl
 rw [List.drop_eq_getElem_cons (by simpa using h)]; rfl
theorem width_le (s : ByteArray) (pos : Nat) (h : pos < s.size) : pos + (Utf8.decode s pos).2 ≤ s.size := by
 by_cases h1 : (Utf8.decode s pos).2 ≤ 1
 ·omega
 ·have := (decode_cont s pos ((Utf8.decode s pos).2 - 1) (by omega) (by omega)).1
  omega
def bad (b : UInt8) : Bool := b == 47 || b == 0 || b == 10
def has (l : List UInt8) : Bool := l.any bad
theorem bad_iff (b : UInt8) : bad b = true ↔ b = 47 ∨ b = 0 ∨ b = 10 := by unfold bad; simp [or_assoc]
theorem irune_high (r : Int) (h1 : 128 ≤ r) (w : World) :
  Calls Tryz.prog 178 #[.string ⟨#[47, 0, 10]⟩, .int .i32 r] w fun e w' => e = .returned (.int .i64 (-1)) ∧ Below w.heap.size w w' := by
 by_cases h2 : r = 65533
 ·subst h2; exact irune_err w
 ·cases hv : Lib.validRune r with
  | true => exact irune_ok r h1 h2 hv w
  | false => exact irune_bad r h1 h2 hv w
theorem irune_low (b : UInt8) (h : b.toNat < 128) (w : World) :
  Calls Tryz.prog 178 #[.string ⟨#[47, 0, 10]⟩, .int .i32 b.toNat] w fun e w' => (∃ n : Int, e = .returned (.int .i64 n) ∧ (0 ≤ n ↔ bad b = true)) ∧ w' = w := by
 refine (Tryz.strings_IndexRune_ascii ⟨#[47, 0, 10]⟩ b.toNat w (by omega) (by omega)).mono ?_
 rintro e w' ⟨rfl, rfl⟩
 have hb : ((b.toNat : Int)).toNat.toUInt8 = b := by simp
 rw [hb]
 have hc := Lib.contains_iff_indexByte [47, 0, 10] b
 refine ⟨⟨_, rfl, ?_⟩, rfl⟩
 have e1 : (0 ≤ Lib.indexByte (⟨#[47, 0, 10]⟩ : ByteArray).data.toList b) ↔ ([47, 0, 10] : List UInt8).contains b = true := by rw [hc]; simp
 rw [e1, bad_iff]
 simp
def NoH (s : ByteArray) (k : Nat) : Prop := has ((tl s).take k) = false
theorem noH_more (s : ByteArray) (k n : Nat) (h : NoH s k) (hn : has (((tl s).drop k).take n) = false) : NoH s (k + n) := by
 unfold NoH has at *
 rw [List.take_add, List.any_append, h, hn]
 rfl
theorem noH_end (s : ByteArray) (h : NoH s s.size) : has (tl s) = false := by
 unfold NoH at h
 rwa [List.take_of_length_le (by rw [tl_len]; omega)] at h
theorem has_at (s : ByteArray) (k : Nat) (h : k < s.size) (hb : bad s[k] = true) : has (tl s) = true := by
 have hm : s[k] ∈ tl s := List.getElem_mem (by rw [tl_len]; exact h)
 exact List.any_eq_true.2 ⟨_, hm, hb⟩
theorem has_one (s : ByteArray) (k : Nat) (h : k < s.size) (hb : bad s[k] = false) : has (((tl s).drop k).take 1) = false := by
 rw [drop_at s k h]
 unfold has
 simp [hb]
theorem has_high (s : ByteArray) (pos : Nat) (h : pos < s.size) (hh : 128 ≤ s[pos].toNat) : has (((tl s).drop pos).take (Utf8.decode s pos).2) = false := by
 have key : ∀ b ∈ ((tl s).drop pos).take (Utf8.decode s pos).2, 128 ≤ b.toNat := by
  intro b hm
  obtain ⟨j, hj, e⟩ := List.mem_iff_getElem.1 hm
  rw [List.length_take, List.length_drop, tl_len] at hj
  rw [List.getElem_take, List.getElem_drop] at e
  have e2 : s[pos + j]'(by omega) = b := e
  by_cases h0 : j = 0
  ·subst h0; rw [← e2]; exact hh
  ·have := (decode_cont s pos j (by omega) (by omega)).2
   rwa [get_eq s (pos + j) (by omega), e2] at this
 unfold has
 rw [List.any_eq_false]
 intro b hm
 have := key b hm
 rw [bad_iff]
 rintro (rfl | rfl | rfl) <;> exact absurd this (by decide)
set_option maxRecDepth 100000 in
set_option maxHeartbeats 2000000 in
theorem iany_short (s : ByteArray) (hs : s.size ≤ 8) (w : World) :
  Calls Tryz.prog 154 #[.string s, .string ⟨#[47, 0, 10]⟩] w fun e w' => (∃ n : Int, e = .returned (.int .i64 n) ∧ (0 ≤ n ↔ has (tl s) = true)) ∧ Below w.heap.size w w' := by
 have h8 : decide ((8 : Int) < (s.size : Int)) = false := decide_eq_false (by omega)
 have kA := fun w => Tryz.strings_shouldUseASCIISet s.size w
 simp only [h8] at kA
 clear h8
 go_enter Tryz.func154, Tryz.ntmps154
 go_wp2_with (go_at_call 179; refine (kA _).mono ?_; rintro e w0 ⟨rfl, hw0⟩)
 obtain rfl : w0 = w := hw0
 go_wp2
 go_loopw [] (fun wr => ∃ pos : Nat, pos ≤ s.size ∧ wr.heap[w0.heap.size]? = some (.stringIter s pos) ∧ Below w0.heap.size w0 wr ∧ Hid (NoH s pos)) (fun wr => s.size - wr.iterPos w0.heap.size)
 case atStart => exact ⟨0, Nat.zero_le _, World.iter_heap w0 s 0, (Below.refl _ w0).alloc (Nat.le_refl _) _, rfl⟩
 case round =>
  obtain ⟨pos, hp, hit, hB, HN⟩ := hrel
  have hsz : w0.heap.size < wr.heap.size := (Array.getElem?_eq_some_iff.1 hit).1
  have hme : wr.iterPos w0.heap.size = pos := by simp only [World.iterPos, hit]
  by_cases hlt : pos < s.size
  ·by_cases ha : (s[pos]'hlt).toNat < 128
   ·have hnx := fun ty => Lib.run_next_ascii_at (P := Tryz.prog) wr w0.heap.size s pos ty hit hlt ha
    have hit1 := Lib.iterAt_heap wr w0.heap.size s pos (pos + 1) hit
    have hB1 := Lib.below_iterAt hB (Nat.le_refl _) s (pos + 1)
    have kL := fun w => irune_low s[pos] ha w
    generalize wr.iterAt w0.heap.size s (pos + 1) = W1 at hnx hit1 hB1
    cases hb : bad s[pos] with
    | true =>
     have HF := hide' (has_at s pos hlt hb)
     simp only [hb, iff_true] at kL
     clear hb HN ha
     go_wp2_with fail
     refine (kL _).mono ?_
     rintro e w1 ⟨⟨n, rfl, hn⟩, rfl⟩
     go_wp2
     go_ret
     exact ⟨⟨pos, rfl, iff_of_true (by omega) HF.out⟩, hB1⟩
    | false =>
     have HN1 := hide' (noH_more s pos 1 HN.out (has_one s pos hlt hb))
     simp only [hb, Bool.false_eq_true, iff_false] at kL
     clear hb HN ha
     go_wp2_with fail
     refine (kL _).mono ?_
     rintro e w1 ⟨⟨n, rfl, hn⟩, rfl⟩
     go_wp2
     exact ⟨⟨pos + 1, by omega, hit1, hB1, HN1⟩, by rw [hme]; simp only [World.iterPos, hit1]; omega⟩
   ·have hh : 128 ≤ (s[pos]'hlt).toNat := by omega
    have hnx := fun ty => Lib.run_next_any_at (P := Tryz.prog) wr w0.heap.size s pos ty hit hlt
    have hd := decode_high s pos hlt hh
    have hw2 := width_le s pos hlt
    have HN1 := hide' (noH_more s pos _ HN.out (has_high s pos hlt hh))
    have hit1 := Lib.iterAt_heap wr w0.heap.size s pos (pos + (Utf8.decode s pos).2) hit
    have hB1 := Lib.below_iterAt hB (Nat.le_refl _) s (pos + (Utf8.decode s pos).2)
    generalize wr.iterAt w0.heap.size s (pos + (Utf8.decode s pos).2) = W1 at hnx hit1 hB1
    generalize (Utf8.decode s pos).2 = wd at hw2 HN1 hit1 hd
    generalize (Utf8.decode s pos).1 = r at hd hnx
    have kH := fun w => irune_high r (by omega) w
    clear ha hh HN
    go_wp2_with fail
    refine (kH _).mono ?_
    rintro e w1 ⟨rfl, hb1⟩
    have hs1 : w0.heap.size < W1.heap.size := (Array.getElem?_eq_some_iff.1 hit1).1
    have hit2 : w1.heap[w0.heap.size]? = some (.stringIter s (pos + wd)) := (hb1.block _ hs1).trans hit1
    have hB2 := hB1.trans (hb1.mono hB1.size)
    clear hit1 hb1 hB1
    go_wp2
    exact ⟨⟨pos + wd, hw2, hit2, hB2, HN1⟩, by rw [hme]; simp only [World.iterPos, hit2]; omega⟩
  ·obtain rfl : pos = s.size := by omega
   have hnx := fun ty => Lib.run_next_end_at (P := Tryz.prog) wr w0.heap.size s s.size ty hit hlt
   have HF := hide' (noH_end s HN.out)
   clear HN
   go_wp2
   go_ret
   exact ⟨⟨-1, rfl, by rw [HF.out]; simp⟩, hB⟩
theorem indexAny_has (l : List UInt8) : 0 ≤ Lib.indexAny l [47, 0, 10] ↔ has l = true := by
 induction l with
 | nil => simp [Lib.indexAny, has]
 | cons b r ih =>
  by_cases hb : ([47, 0, 10] : List UInt8).contains b = true
  ·have e1 : has (b :: r) = true := List.any_eq_true.2 ⟨b, List.mem_cons_self, by rw [bad_iff]; simpa using hb⟩
   rw [Lib.indexAny, if_pos hb, e1]
   simp
  ·have e2 : has (b :: r) = has r := by
    unfold has
    rw [List.any_cons]
    have : bad b = false := by
     cases h : bad b with
     | false => rfl
     | true => rw [bad_iff] at h; exact absurd (by simpa using h) hb
    rw [this, Bool.false_or]
   rw [e2, ← ih, Lib.indexAny, if_neg hb]
   by_cases hm : Lib.indexAny r [47, 0, 10] = -1
   ·simp [hm]
   ·rw [if_neg (by simpa using hm)]
    omega
theorem small3 : ∀ (j : Nat) b, (⟨#[47, 0, 10]⟩ : ByteArray).data.toList[j]? = some b → b.toNat < 128 := by
 intro j b h
 have hm : b ∈ ([47, 0, 10] : List UInt8) := List.mem_of_getElem? h
 rcases (by simpa using hm : b = 47 ∨ b = 0 ∨ b = 10) with rfl | rfl | rfl <;> decide
theorem zero107 : (Tryz.prog.info? 251).map (fun i : TypeInfo => (i.zero, i.size, i.bytes)) = some (some (.agg (Array.replicate 256 (.bool false))), 256, 256) := by kernel_rfl
theorem zv107 (w : World) : (zeroValue 251).run Tryz.prog w = .ok (.agg (Array.replicate 256 (.bool false))) w := by
 obtain ⟨i, hi, hz0, hz1, hz2⟩ := info_parts zero107
 simp [zeroValue, typeInfo, hi, hz0]
theorem iany_any (s : ByteArray) (hs : s.size ≤ 1000000) (w : World) :
  Calls Tryz.prog 154 #[.string s, .string ⟨#[47, 0, 10]⟩] w fun e w' => (∃ n : Int, e = .returned (.int .i64 n) ∧ (0 ≤ n ↔ has (tl s) = true)) ∧ Below w.heap.size w w' := by
 by_cases h8 : s.size ≤ 8
 ·exact iany_short s h8 w
 ·refine (Tryz.strings_IndexAny_long zv107 s ⟨#[47, 0, 10]⟩ w (by decide) (by omega) (by omega) (by decide) small3).mono ?_
  rintro e w' ⟨rfl, rfl⟩
  exact ⟨⟨_, rfl, indexAny_has _⟩, ((Below.refl _ _).alloc (Nat.le_refl _) _).alloc (by simp) _⟩
theorem contains_any (s : ByteArray) (hs : s.size ≤ 1000000) (w : World) :
  Calls Tryz.prog 134 #[.string s, .string ⟨#[47, 0, 10]⟩] w fun e w' => e = .returned (.bool (has (tl s))) ∧ Below w.heap.size w w' := by
 have q := fun w => iany_any s hs w
 cases hh : has (tl s) with
 | true =>
  simp only [hh, iff_true] at q
  go_enter Tryz.func134, Tryz.ntmps134
  go_wp2_with fail
  refine (q _).mono ?_
  rintro e w1 ⟨⟨n, rfl, hn⟩, hb⟩
  go_wp2
  go_ret
  exact ⟨rfl, hb⟩
 | false =>
  simp only [hh, Bool.false_eq_true, iff_false] at q
  go_enter Tryz.func134, Tryz.ntmps134
  go_wp2_with fail
  refine (q _).mono ?_
  rintro e w1 ⟨⟨n, rfl, hn⟩, hb⟩
  have hd : decide (0 ≤ n) = false := decide_eq_false (by omega)
  go_wp2
  go_ret
  exact ⟨by first | rfl | (rw [← hd]; rfl), hb⟩
end Go.Proofs.YtabmnkddmdffkaaGreatDoor.Arc
namespace Go.Proofs.YtabmnkddmdffkaaGreatDoor.Arc
open Go.RowKit Go.Maps Go.Shelf
theorem gW : Tryz.prog.globalNamed "anvil/ar.widths" = some 3 := by kernel_rfl
theorem gP : Tryz.prog.globalNamed "internal/strconv.uint64pow10" = some 9 := by kernel_rfl
def wids : List Int := [16, 12, 6, 6, 8, 10]
structure Env (w : World) : Prop where
 wid : Lib.TabIs Tryz.prog w "anvil/ar.widths" .i64 wids
 tab : Lib.TabIs Tryz.prog w "internal/strconv.uint64pow10" .u64 Lib.pow10Tab
theorem var_keep {P : Program} {B g : Nat} {W W' : World} {n : String} {cs : Array Value} (h : Below B W W') (hg : P.globalNamed n = some g) (hgB : g < B) (hv : W.var? P n = some cs) : W'.var? P n = some cs := by
 unfold World.var? at hv ⊢
 rw [hg] at hv ⊢
 simpa [h.block g hgB] using hv
theorem Env.keep {w w' : World} {B : Nat} (h : Env w) (hb : Below B w w') (hB : 9 < B) : Env w' := ⟨var_keep hb gW (by omega) h.wid, var_keep hb gP (by omega) h.tab⟩
theorem Env.cell {w : World} (h : Env w) (i : Nat) (hi : i < 6) : w.cell? ⟨3, i, none⟩ = some (.int .i64 (wids.getD i 0)) := h.wid.cell gW i hi
theorem below_grow (w : World) (k : Nat) (os : Array Obj) : Below w.heap.size w (Go.Sort.grow (w.drewN k) os) := by
 refine (below_drewn (B := w.heap.size) (w := w) k).trans ⟨rfl, rfl, rfl, by simp [Go.Sort.grow], fun j hj => ?_⟩
 simp only [Go.Sort.grow]
 rw [Array.getElem?_append_left]
 exact Nat.lt_of_lt_of_le hj (below_drewn (B := w.heap.size) (w := w) k).size
theorem decimal_any (n : Int) (h0 : -9223372036854775808 ≤ n) (h1 : n ≤ 9223372036854775807) (w : World) (h : Env w) :
  Calls Tryz.prog 174 #[.int .i64 n] w fun e w' => e = .returned (.string (mk (dec n))) ∧ Below w.heap.size w w' := by
 go_enter Tryz.func174, Tryz.ntmps174
 go_wp2_with (go_at_call 195; refine (Tryz.strconv_FormatInt_10 n h0 h1 _ h.tab).mono ?_; rintro e w' ⟨rfl, k, os, rfl⟩)
 go_ret
 exact ⟨rfl, below_grow _ _ _⟩
theorem nmb_has (b : Bs) : nmb b = (!b.isEmpty && decide (b.length ≤ 255) && !has b) := rfl
set_option maxRecDepth 100000 in
theorem name_any (b : Bs) (hs : b.length ≤ 1000000) (w : World) :
  Calls Tryz.prog 194 #[.string (mk b)] w fun e w' => e = .returned (.bool (nmb b)) ∧ Below w.heap.size w w' := by
 have q := fun w => contains_any (mk b) (by rw [mk_size]; exact hs) w
 rw [tl_mk] at q
 rw [nmb_has]
 have hsz := mk_size b
 by_cases h0 : b = []
 ·subst h0
  go_enter Tryz.func194, Tryz.ntmps194
  go_wp2
  go_ret
  exact ⟨rfl, Below.refl _ _⟩
 ·have e0 : b.isEmpty = false := by cases b with | nil => exact absurd rfl h0 | cons _ _ => rfl
  have e1 : (b == []) = false := beq_eq_false_iff_ne.2 h0
  by_cases h1 : b.length ≤ 255
  ·have k1 : (b.length : Int) ≤ 255 := by omega
   rw [e0, decide_eq_true h1]
   cases hb : has b with
   | true =>
    rw [hb] at q
    go_enter Tryz.func194, Tryz.ntmps194
    go_wp2_with (go_at_call 134; refine (q _).mono ?_; rintro e w' ⟨rfl, hB⟩)
    go_ret
    exact ⟨rfl, hB⟩
   | false =>
    rw [hb] at q
    go_enter Tryz.func194, Tryz.ntmps194
    go_wp2_with (go_at_call 134; refine (q _).mono ?_; rintro e w' ⟨rfl, hB⟩)
    go_ret
    exact ⟨rfl, hB⟩
  ·have k1 : ¬ (b.length : Int) ≤ 255 := by omega
   rw [e0, decide_eq_false h1]
   go_enter Tryz.func194, Tryz.ntmps194
   go_wp2
   go_ret
   exact ⟨by simp, Below.refl _ _⟩
def padAll : List Nat → List Bs → Bs
 | n :: ns, c :: cs => pad n c ++ padAll ns cs
 | _, _ => []
theorem padAll_take : ∀ (ns : List Nat) (cs : List Bs) (k : Nat) (n : Nat) (c : Bs), ns[k]? = some n → cs[k]? = some c → padAll ns (cs.take (k + 1)) = padAll ns (cs.take k) ++ pad n c
 | [], _, k, n, c, h, _ => by simp at h
 | _ :: _, [], k, n, c, _, h => by simp at h
 | n' :: ns, c' :: cs, 0, n, c, h1, h2 => by
  obtain rfl : n' = n := by simpa using h1
  obtain rfl : c' = c := by simpa using h2
  simp [padAll]
 | n' :: ns, c' :: cs, k + 1, n, c, h1, h2 => by
  have := padAll_take ns cs k n c (by simpa using h1) (by simpa using h2)
  simp only [List.take_succ_cons, padAll, this, List.append_assoc]
def widN : List Nat := [16, 12, 6, 6, 8, 10]
theorem headB_all (a b c d e f : Bs) : headB a b c d e f = padAll widN [a, b, c, d, e, f] ++ [96, 10] := by simp [headB, padAll, widN]
theorem pad_len (n : Nat) (c : Bs) : (pad n c).length ≤ n + c.length := by unfold pad; simp; omega
theorem padAll_len : ∀ (ns : List Nat) (cs : List Bs) (M W : Nat), (∀ c ∈ cs, c.length ≤ M) → (∀ n ∈ ns, n ≤ W) → (padAll ns cs).length ≤ cs.length * (M + W)
 | [], _, _, _, _, _ => by simp [padAll]
 | _ :: _, [], _, _, _, _ => by simp [padAll]
 | n :: ns, c :: cs, M, W, h1, h2 => by
  have h3 := padAll_len ns cs M W (fun x hx => h1 x (List.mem_cons_of_mem _ hx)) (fun x hx => h2 x (List.mem_cons_of_mem _ hx))
  have h4 := pad_len n c
  have h5 := h1 c List.mem_cons_self
  have h6 := h2 n List.mem_cons_self
  simp only [padAll, List.length_append, List.length_cons, Nat.add_mul, Nat.one_mul]
  omega
def Cols (w : World) (cb : Nat) (cols : List Bs) : Prop := ∃ cs : Array Value, w.heap[cb]? = some (.cells cs 9 (0, 0)) ∧ ∀ (j : Nat) (c : Bs), cols[j]? = some c → cs[j]? = some (Value.string (mk c))
theorem Cols.cell {w : World} {cb : Nat} {cols : List Bs} (h : Cols w cb cols) (j : Nat) (c : Bs) (hj : cols[j]? = some c) : w.cell? ⟨cb, j, none⟩ = some (.string (mk c)) := by
 obtain ⟨cs, h1, h2⟩ := h
 rw [Lib.cell_of_heap h1]
 exact h2 j c hj
theorem Cols.grown {w w' : World} {cb : Nat} {cols : List Bs} {v : Value} {bs : Bs} (h : Cols w cb cols) (hv : Dat w v bs) (hg : w.grownBy w' v.ownBlock) : Cols w' cb cols := by
 obtain ⟨cs, h1, h2⟩ := h
 refine ⟨cs, (hg.block cb (lt_of_block h1) fun e => ?_).trans h1, h2⟩
 obtain ⟨cur, hc⟩ := hv.elem cb e.symm
 rw [h1] at hc
 simp at hc
theorem Cols.below {w w' : World} {cb : Nat} {cols : List Bs} (h : Cols w cb cols) (hb : Below w.heap.size w w') : Cols w' cb cols := by
 obtain ⟨cs, h1, h2⟩ := h
 exact ⟨cs, (hb.block cb (lt_of_block h1)).trans h1, h2⟩
set_option maxRecDepth 100000 in
set_option maxHeartbeats 4000000 in
theorem ahead_any (v : Value) (bs : Bs) (cb cc : Nat) (cols : List Bs) (w : World) (hv : Dat w v bs) (hO : OwnB 10 v) (hN : 10 ≤ w.heap.size) (hE : Env w) (hC : Cols w cb cols) (h6 : cols.length = 6) (hcl : ∀ c ∈ cols, c.length ≤ 300) (hsz : bs.length ≤ 900000000) :
  Calls Tryz.prog 173 #[v, .slice (some ⟨cb, 0, none⟩) 6 cc] w fun r w' => ∃ v', r = .returned v' ∧ Dat w' v' (bs ++ (padAll widN cols ++ [96, 10])) ∧ Grw w v.ownBlock w' v' := by
 have hpl : ∀ k, (padAll widN (cols.take k)).length ≤ 6 * (300 + 16) := fun k => by
  have h1 := padAll_len widN (cols.take k) 300 16 (fun c hc => hcl c (List.mem_of_mem_take hc)) (by decide)
  have h2 : (cols.take k).length ≤ 6 := by rw [List.length_take]; omega
  exact Nat.le_trans h1 (Nat.mul_le_mul_right _ h2)
 obtain ⟨vo, hvo⟩ : ∃ vo, vo = v := ⟨_, rfl⟩
 rw [← hvo] at hO
 go_enter Tryz.func173, Tryz.ntmps173
 go_wp2
 go_loopw [0, 5, 6, 9] (fun v _ _ i wr => ∃ k : Nat, k ≤ 6 ∧ i = .int .i64 k ∧ Dat wr v (bs ++ padAll widN (cols.take k)) ∧ Grw w vo.ownBlock wr v ∧ Cols wr cb cols) (fun _ _ _ i _ => 6 - (intOf i).toNat)
 case atStart => exact ⟨0, by omega, rfl, by simpa [padAll, widN] using hv, by rw [hvo]; exact Grw.refl _ _, hC⟩
 case round =>
  obtain ⟨k, hk, rfl, hD, hG1, hC1⟩ := hrel
  by_cases hkl : k < 6
  ·have k1 : (k : Int) < 6 := by omega
   obtain ⟨c, hc⟩ : ∃ c, cols[k]? = some c := ⟨_, List.getElem?_eq_getElem (by omega)⟩
   obtain ⟨n, hn⟩ : ∃ n, widN[k]? = some n := ⟨_, List.getElem?_eq_getElem (by show k < 6; exact hkl)⟩
   have hni : wids.getD k 0 = (n : Nat) := by
    rcases (by omega : k = 0 ∨ k = 1 ∨ k = 2 ∨ k = 3 ∨ k = 4 ∨ k = 5) with rfl | rfl | rfl | rfl | rfl | rfl <;> (cases hn; rfl)
   have hn16 : n ≤ 16 := by
    have : ∀ x ∈ widN, x ≤ 16 := by decide
    exact this n (List.mem_of_getElem? hn)
   have hcc := hcl c (List.mem_of_getElem? hc)
   have hpk := hpl k
   have hst := padAll_take widN cols k n c hn hc
   have d0 := hC1.cell k c hc
   have hlb : (bs ++ padAll widN (cols.take k)).length ≤ 900002000 := by rw [List.length_append]; omega
   obtain ⟨X, hX⟩ : ∃ X, X = bs ++ padAll widN (cols.take k) := ⟨_, rfl⟩
   have hst2 : bs ++ padAll widN (cols.take (k + 1)) = X ++ (c ++ List.replicate (n - c.length) 32) := by rw [hst, hX, List.append_assoc]; rfl
   rw [← hX] at hD hlb
   have HS := hide' hst2
   have HC := hide' hcl
   have HP := hide' hpl
   clear hst hst2 hX hpk hcl hpl
   go_wp2_with (at_builtin; refine wpList_append_str _ rfl _ _ rfl rfl rfl hD (by rw [mk_size]; omega) ?_)
   intro v2 w2 hD2 hg2 ho2
   have hG2 := hG1.step hg2 ho2
   have hC2 := hC1.grown hD hg2
   rw [tl_mk] at hD2
   have hE2 := hE.keep (hG2.below hN hO) (by omega)
   have e0 := hE2.cell k hkl
   rw [hni] at e0
   have HE := hide' hE
   clear hE hD hg2 ho2 hC1 d0
   go_wp2
   by_cases hcn : c.length ≤ n
   ·obtain ⟨m, hm⟩ : ∃ m : Nat, m = n - c.length := ⟨_, rfl⟩
    have hmi : (n : Int) - (c.length : Int) = m := by omega
    have hmn : m ≤ 16 := by omega
    rw [← hm] at HS
    rw [hmi]
    clear hm hmi
    obtain ⟨wo, rfl⟩ : ∃ wo, wo = w2 := ⟨_, rfl⟩
    go_loopw [0, 23] (fun v i wi => ∃ j : Nat, j ≤ m ∧ i = .int .i64 j ∧ Dat wi v (X ++ c ++ List.replicate j 32) ∧ Grw w vo.ownBlock wi v ∧ Cols wi cb cols) (fun _ i _ => m - (intOf i).toNat)
    case atStart => exact ⟨0, by omega, rfl, by simpa using hD2, hG2, hC2⟩
    case round =>
     obtain ⟨j, hj, rfl, hDj, hGj, hCj⟩ := hrel
     by_cases hjm : j < m
     ·have j1 : (j : Int) < m := by omega
      have hb4 : Below wr.heap.size wr (wr.alloc (.cells #[.int .u8 32] 5)) := (Below.refl _ _).alloc (Nat.le_refl _) _
      have hD4 := hDj.kept fun g hg => hb4.block g (hDj.lt g hg)
      have hr4 := byte_rds wr 32
      have hG4 := hGj.alloc (.cells #[.int .u8 32] 5)
      have hC4 := hCj.below hb4
      have hln : (X ++ c ++ List.replicate j 32).length + 1 ≤ 1099511627776 := by simp only [List.length_append, List.length_replicate]; omega
      have hstj : X ++ c ++ List.replicate j 32 ++ [32] = X ++ c ++ List.replicate (j + 1) 32 := by rw [List.append_assoc, ← List.replicate_succ']
      have HJ := hide' hstj
      clear hstj
      go_wp2_with (at_builtin; refine wpList_append_dat _ rfl _ _ rfl rfl rfl hD4 hr4 hln ?_)
      intro v5 w5 hD5 _ hg5 ho5
      have hG5 := hG4.step hg5 (by first | exact ho5 | (rw [size_alloc']; exact ho5))
      have hC5 := hC4.grown hD4 hg5
      have hD5 : Dat w5 v5 (X ++ c ++ List.replicate (j + 1) 32) := by rw [← HJ.out]; simpa only [List.append_assoc] using hD5
      go_wp2
      exact ⟨⟨j + 1, by omega, by simp, hD5, hG5, hC5⟩, by simp [intOf]; omega⟩
     ·obtain rfl : j = m := by omega
      have j1 : ¬ (j : Int) < j := by omega
      have hDz : Dat wr u0 (bs ++ padAll widN (cols.take (k + 1))) := by rw [HS.out, ← List.append_assoc]; exact hDj
      go_wp2
      exact ⟨⟨k + 1, by omega, by simp, hDz, hGj, hCj⟩, by simp [intOf]; omega⟩
   ·obtain ⟨z, hz⟩ : ∃ z : Int, z = (n : Int) - (c.length : Int) := ⟨_, rfl⟩
    have hz0 : ¬ (0 : Int) < z := by omega
    have hm0 : n - c.length = 0 := by omega
    rw [hm0] at HS
    rw [← hz]
    clear hz hm0
    have hDz : Dat w2 v2 (bs ++ padAll widN (cols.take (k + 1))) := by rw [HS.out]; simpa using hD2
    obtain ⟨wo, hwo⟩ : ∃ wo, wo = w2 := ⟨_, rfl⟩
    go_loopw [0, 23] (fun v i wi => i = .int .i64 0 ∧ v = v2 ∧ wi = w2) (fun _ _ _ => 0)
    case atStart => exact ⟨rfl, rfl, rfl⟩
    case round =>
     obtain ⟨rfl, rfl, rfl⟩ := hrel
     go_wp2
     exact ⟨⟨k + 1, by omega, by simp, hDz, hG2, hC2⟩, by simp [intOf]; omega⟩
  ·obtain rfl : k = 6 := by omega
   rw [List.take_of_length_le (by omega)] at hD
   have hpl6 := hpl 6
   rw [List.take_of_length_le (by omega)] at hpl6
   go_wp2_with (at_builtin; refine wpList_append_str _ rfl _ _ rfl rfl rfl hD (by rw [List.length_append]; show _ + 2 ≤ _; omega) ?_)
   intro v2 w2 hD2 hg2 ho2
   have hG2 := hG1.step hg2 ho2
   have hD2 : Dat w2 v2 (bs ++ (padAll widN cols ++ [96, 10])) := hD2
   obtain ⟨a2, n2, c2, hv2⟩ := hD2.form
   subst hv2
   go_wp2
   go_ret
   rw [hvo] at hG2
   exact ⟨_, rfl, hD2, hG2⟩
end Go.Proofs.YtabmnkddmdffkaaGreatDoor.Arc
