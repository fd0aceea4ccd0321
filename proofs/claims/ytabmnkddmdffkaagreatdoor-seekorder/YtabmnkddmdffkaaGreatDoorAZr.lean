/- The contract of strings.IndexRune at the text of the bytes 0 and 10 and a rune that is no ASCII: nothing is found. The contracts of strings.IndexAny and ContainsAny at the bytes 0 and 10, whatever the text is, and of path.validName. The contracts of strings.ContainsAny, path.validName and path.Valid. -/
import Derived.Test.YtabmnkddmdffkaaGreatDoorAZn
import Derived.Laws.Runes
import Derived.Deep.QuietTactic
import Derived.BigQuiet
namespace Go.Proofs.YtabmnkddmdffkaaGreatDoor
open Go.RowKit Go.Shelf

set_option maxRecDepth 100000 in
set_option maxHeartbeats 2000000 in
theorem irune_err (w : World) :
    Calls Tryz.prog 178 #[.string ⟨#[0, 10]⟩, .int .i32 65533] w fun e w' => e = .returned (.int .i64 (-1)) ∧ Below w.heap.size w w' := by
  have n0 := fun ty => run_next_ascii (P := Tryz.prog) w ⟨#[0, 10]⟩ 0 ty (by decide) (by decide)
  have n1 := fun ty => run_next_ascii (P := Tryz.prog) w ⟨#[0, 10]⟩ 1 ty (by decide) (by decide)
  have n2 := fun ty => run_next_end (P := Tryz.prog) w ⟨#[0, 10]⟩ 2 ty (by decide)
  go_enter Tryz.func178, Tryz.ntmps178
  go_wp2
  go_loopw [] (fun wr => ∃ pos : Nat, pos ≤ 2 ∧ wr = w.iter ⟨#[0, 10]⟩ pos) (fun wr => 2 - wr.iterPos w.heap.size)
  case atStart => exact ⟨0, by omega, rfl⟩
  case round =>
    obtain ⟨pos, hp, rfl⟩ := hrel
    have hme : ∀ p, (w.iter ⟨#[0, 10]⟩ p).iterPos w.heap.size = p := fun p => by simp only [World.iterPos, World.iter_heap]
    rcases (by omega : pos = 0 ∨ pos = 1 ∨ pos = 2) with rfl | rfl | rfl
    · go_wp2
      exact ⟨⟨1, by omega, rfl⟩, by rw [hme, hme]; omega⟩
    · go_wp2
      exact ⟨⟨2, by omega, rfl⟩, by rw [hme, hme]; omega⟩
    · go_wp2
      go_ret
      exact ⟨rfl, (Below.refl _ w).alloc (Nat.le_refl _) _⟩

set_option maxRecDepth 100000 in
set_option maxHeartbeats 2000000 in
theorem irune_bad (r : Int) (h1 : 128 ≤ r) (h2 : r ≠ 65533) (hv : Lib.validRune r = false) (w : World) :
    Calls Tryz.prog 178 #[.string ⟨#[0, 10]⟩, .int .i32 r] w fun e w' => e = .returned (.int .i64 (-1)) ∧ Below w.heap.size w w' := by
  have k1 : ¬ r < 128 := by omega
  have k0 : (0 : Int) ≤ r := by omega
  have k2 : (r == 65533) = false := beq_eq_false_iff_ne.2 h2
  have hV := fun w => Tryz.utf8_ValidRune r w
  simp only [hv] at hV
  clear hv h2
  go_enter Tryz.func178, Tryz.ntmps178
  go_wp2_with (go_at_call 197; refine (hV _).mono ?_; rintro e w' ⟨rfl, rfl⟩)
  go_ret
  exact ⟨rfl, Below.refl _ _⟩

set_option maxRecDepth 100000 in
set_option maxHeartbeats 2000000 in
theorem irune_ok (r : Int) (h1 : 128 ≤ r) (h2 : r ≠ 65533) (hv : Lib.validRune r = true) (w : World) :
    Calls Tryz.prog 178 #[.string ⟨#[0, 10]⟩, .int .i32 r] w fun e w' => e = .returned (.int .i64 (-1)) ∧ Below w.heap.size w w' := by
  have hval : Utf8.valid r = true := by
    simp only [Lib.validRune, decide_eq_true_eq] at hv
    simp only [Utf8.valid, Bool.or_eq_true, Bool.and_eq_true, decide_eq_true_eq]
    omega
  obtain ⟨e1, e2, e3⟩ := encode_facts r hval h1
  have k1 : ¬ r < 128 := by omega
  have k0 : (0 : Int) ≤ r := by omega
  have k2 : (r == 65533) = false := beq_eq_false_iff_ne.2 h2
  have hV := fun w => Tryz.utf8_ValidRune r w
  simp only [hv] at hV
  clear hv h2 hval
  obtain ⟨E, hE⟩ : ∃ E, E = Utf8.encode r := ⟨_, rfl⟩
  rw [← hE] at e1 e2 e3
  have hE' := hE.symm
  obtain ⟨n, hn⟩ : ∃ n, E.size = n + 1 := ⟨E.size - 1, by omega⟩
  have hlt : n < E.size := by omega
  have hb : 128 ≤ (E[n]'hlt).toNat := by have := e3 (by omega); simpa [hn] using this
  obtain ⟨b, hbe⟩ : ∃ b, E[n]'hlt = b := ⟨_, rfl⟩
  rw [hbe] at hb
  have hz : ((E.size : Int) - 1) = n := by omega
  have hn2 : 1 ≤ n := by omega
  have hn3 : n ≤ 3 := by omega
  clear hE e1 e2 e3
  go_enter Tryz.func178, Tryz.ntmps178
  go_wp2_with (go_at_call 197; refine (hV _).mono ?_; rintro e w' ⟨rfl, rfl⟩)
  go_step3
  go_wp2
  go_loopw [9, 10] (fun i f wr => i = .int .i64 n ∧ f = .int .i64 0 ∧ wr = w') (fun _ _ _ => 0)
  case atStart => exact ⟨by go_num, rfl, rfl⟩
  case round =>
    obtain ⟨rfl, rfl, rfl⟩ := hrel
    by_cases h2 : 2 ≤ n
    · have d1 : ¬ (n : Int) < 2 := by omega
      go_wp2
      go_ret
      exact ⟨rfl, Below.refl _ _⟩
    · obtain rfl : n = 1 := by omega
      have d2 : ((((⟨#[0, 10]⟩ : ByteArray)[1]'(by decide)).toNat : Int) != (b.toNat : Int)) = true := by
        show ((10 : Int) != (b.toNat : Int)) = true
        rw [bne_iff_ne]
        omega
      have q : ∀ w, Calls Tryz.prog 196 #[.string ByteArray.empty, .int .u8 b.toNat] w fun e w' => e = .returned (.int .i64 (-1)) ∧ w' = w := fun w => Tryz.strings_IndexByte _ _ w
      have hw2 : IntKind.i64.wrap 2 = 2 := by decide
      have hw3 : IntKind.i64.wrap (1 + 1) = 2 := by decide
      go_wp2
      go_step3
      go_wp2
      go_region
      go_wp2
      go_quiet ((go_at_call 196; exact (q _).mono fun _ _ h => ⟨h.1, _, h.2⟩))
      go_wp2
      rw [Exit.noGoto_ret]
      go_wp2
      try rw [Exit.noGoto_ret]
      go_ret
      exact ⟨rfl, ⟨rfl, rfl, rfl, Nat.le_refl _, fun _ _ => rfl⟩⟩
end Go.Proofs.YtabmnkddmdffkaaGreatDoor
namespace Go.Proofs.YtabmnkddmdffkaaGreatDoor
open Go.RowKit Go.Shelf

def has (l : List UInt8) : Bool := l.contains 0 || l.contains 10
theorem okn_has (x : List UInt8) : okn x = (decide (x.length ≤ 255) && !has x) := by unfold okn has; rw [Bool.not_or, Bool.and_assoc]
theorem irune_high (r : Int) (h1 : 128 ≤ r) (w : World) :
    Calls Tryz.prog 178 #[.string ⟨#[0, 10]⟩, .int .i32 r] w fun e w' => e = .returned (.int .i64 (-1)) ∧ Below w.heap.size w w' := by
  by_cases h2 : r = 65533
  · subst h2; exact irune_err w
  · cases hv : Lib.validRune r with
    | true => exact irune_ok r h1 h2 hv w
    | false => exact irune_bad r h1 h2 hv w
theorem irune_low (b : UInt8) (h : b.toNat < 128) (w : World) :
    Calls Tryz.prog 178 #[.string ⟨#[0, 10]⟩, .int .i32 b.toNat] w fun e w' => (∃ n : Int, e = .returned (.int .i64 n) ∧ (0 ≤ n ↔ b = 0 ∨ b = 10)) ∧ w' = w := by
  refine (Tryz.strings_IndexRune_ascii ⟨#[0, 10]⟩ b.toNat w (by omega) (by omega)).mono ?_
  rintro e w' ⟨rfl, rfl⟩
  have hb : ((b.toNat : Int)).toNat.toUInt8 = b := by simp
  rw [hb]
  have hc := Lib.contains_iff_indexByte [0, 10] b
  refine ⟨⟨_, rfl, ?_⟩, rfl⟩
  have e1 : (0 ≤ Lib.indexByte (⟨#[0, 10]⟩ : ByteArray).data.toList b) ↔ ([0, 10] : List UInt8).contains b = true := by rw [hc]; simp
  rw [e1]
  simp

/-- none of the bytes ahead of k is 0 or 10 -/
def NoH (s : ByteArray) (k : Nat) : Prop := has ((tl s).take k) = false
theorem has_iff (l : List UInt8) : has l = false ↔ 0 ∉ l ∧ 10 ∉ l := by unfold has; simp
theorem noH_more (s : ByteArray) (k n : Nat) (h : NoH s k) (hn : has (((tl s).drop k).take n) = false) : NoH s (k + n) := by
  unfold NoH at h ⊢
  rw [has_iff] at h hn ⊢
  rw [List.take_add]
  exact ⟨fun hm => (List.mem_append.1 hm).elim h.1 hn.1, fun hm => (List.mem_append.1 hm).elim h.2 hn.2⟩
theorem noH_end (s : ByteArray) (h : NoH s s.size) : has (tl s) = false := by
  unfold NoH at h
  rwa [List.take_of_length_le (by rw [tl_len]; omega)] at h
theorem has_at (s : ByteArray) (k : Nat) (h : k < s.size) (hb : s[k] = 0 ∨ s[k] = 10) : has (tl s) = true := by
  have hm : s[k] ∈ tl s := List.getElem_mem (by rw [tl_len]; exact h)
  unfold has
  rcases hb with e | e <;> rw [e] at hm
  · simp [hm]
  · simp [hm]
theorem has_one (s : ByteArray) (k : Nat) (h : k < s.size) (hb : ¬ (s[k] = 0 ∨ s[k] = 10)) : has (((tl s).drop k).take 1) = false := by
  rw [drop_at s k h]
  unfold has
  simp
  exact ⟨fun e => hb (.inl e.symm), fun e => hb (.inr e.symm)⟩
theorem has_high (s : ByteArray) (pos : Nat) (h : pos < s.size) (hh : 128 ≤ s[pos].toNat) : has (((tl s).drop pos).take (Utf8.decode s pos).2) = false := by
  have key : ∀ b ∈ ((tl s).drop pos).take (Utf8.decode s pos).2, 128 ≤ b.toNat := by
    intro b hm
    obtain ⟨j, hj, e⟩ := List.mem_iff_getElem.1 hm
    rw [List.length_take, List.length_drop, tl_len] at hj
    rw [List.getElem_take, List.getElem_drop] at e
    have e2 : s[pos + j]'(by omega) = b := e
    by_cases h0 : j = 0
    · subst h0; rw [← e2]; exact hh
    · have := (decode_cont s pos j (by omega) (by omega)).2
      rwa [get_eq s (pos + j) (by omega), e2] at this
  unfold has
  rw [Bool.or_eq_false_iff]
  constructor
  · cases hc : (((tl s).drop pos).take (Utf8.decode s pos).2).contains 0 with
    | false => rfl
    | true => exact absurd (key 0 (by simpa using hc)) (by decide)
  · cases hc : (((tl s).drop pos).take (Utf8.decode s pos).2).contains 10 with
    | false => rfl
    | true => exact absurd (key 10 (by simpa using hc)) (by decide)

set_option maxRecDepth 100000 in
set_option maxHeartbeats 2000000 in
theorem iany_short (s : ByteArray) (hs : s.size ≤ 8) (w : World) :
    Calls Tryz.prog 154 #[.string s, .string ⟨#[0, 10]⟩] w fun e w' => (∃ n : Int, e = .returned (.int .i64 n) ∧ (0 ≤ n ↔ has (tl s) = true)) ∧ Below w.heap.size w w' := by
  have h8 : decide ((8 : Int) < (s.size : Int)) = false := decide_eq_false (by omega)
  have kA := fun w => Tryz.strings_shouldUseASCIISet s.size w
  simp only [h8] at kA
  clear h8
  go_enter Tryz.func154, Tryz.ntmps154
  go_wp2_with (go_at_call 179; refine (kA _).mono ?_; rintro e w0 ⟨rfl, hw0⟩)
  obtain rfl : w0 = w := hw0
  go_wp2
  go_loopw [] (fun wr => ∃ pos : Nat, pos ≤ s.size ∧ wr.heap[w0.heap.size]? = some (.stringIter s pos) ∧ Below w0.heap.size w0 wr ∧ Hid (NoH s pos)) (fun wr => s.size - wr.iterPos w0.heap.size)
  case atStart => exact ⟨0, Nat.zero_le _, World.iter_heap w0 s 0, (Below.refl _ w0).alloc (Nat.le_refl _) _, rfl⟩
  case round =>
    obtain ⟨pos, hp, hit, hB, HN⟩ := hrel
    have hsz : w0.heap.size < wr.heap.size := (Array.getElem?_eq_some_iff.1 hit).1
    have hme : wr.iterPos w0.heap.size = pos := by simp only [World.iterPos, hit]
    by_cases hlt : pos < s.size
    · by_cases ha : (s[pos]'hlt).toNat < 128
      · have hnx := fun ty => Lib.run_next_ascii_at (P := Tryz.prog) wr w0.heap.size s pos ty hit hlt ha
        have hit1 := Lib.iterAt_heap wr w0.heap.size s pos (pos + 1) hit
        have hB1 := Lib.below_iterAt hB (Nat.le_refl _) s (pos + 1)
        have kL := fun w => irune_low s[pos] ha w
        generalize wr.iterAt w0.heap.size s (pos + 1) = W1 at hnx hit1 hB1
        by_cases hb : s[pos] = 0 ∨ s[pos] = 10
        · have HF := hide' (has_at s pos hlt hb)
          simp only [hb, iff_true] at kL
          clear hb HN ha
          go_wp2_with fail
          refine (kL _).mono ?_
          rintro e w1 ⟨⟨n, rfl, hn⟩, rfl⟩
          go_wp2
          go_ret
          exact ⟨⟨pos, rfl, iff_of_true (by omega) HF.out⟩, hB1⟩
        · have HN1 := hide' (noH_more s pos 1 HN.out (has_one s pos hlt hb))
          simp only [hb, iff_false] at kL
          clear hb HN ha
          go_wp2_with fail
          refine (kL _).mono ?_
          rintro e w1 ⟨⟨n, rfl, hn⟩, rfl⟩
          go_wp2
          exact ⟨⟨pos + 1, by omega, hit1, hB1, HN1⟩, by rw [hme]; simp only [World.iterPos, hit1]; omega⟩
      · have hh : 128 ≤ (s[pos]'hlt).toNat := by omega
        have hnx := fun ty => Lib.run_next_any_at (P := Tryz.prog) wr w0.heap.size s pos ty hit hlt
        have hd := decode_high s pos hlt hh
        have hw2 := width_le s pos hlt
        have HN1 := hide' (noH_more s pos _ HN.out (has_high s pos hlt hh))
        have hit1 := Lib.iterAt_heap wr w0.heap.size s pos (pos + (Utf8.decode s pos).2) hit
        have hB1 := Lib.below_iterAt hB (Nat.le_refl _) s (pos + (Utf8.decode s pos).2)
        generalize wr.iterAt w0.heap.size s (pos + (Utf8.decode s pos).2) = W1 at hnx hit1 hB1
        generalize (Utf8.decode s pos).2 = wd at hw2 HN1 hit1 hd
        generalize (Utf8.decode s pos).1 = r at hd hnx
        have kH := fun w => irune_high r (by omega) w
        clear ha hh HN
        go_wp2_with fail
        refine (kH _).mono ?_
        rintro e w1 ⟨rfl, hb1⟩
        have hs1 : w0.heap.size < W1.heap.size := (Array.getElem?_eq_some_iff.1 hit1).1
        have hit2 : w1.heap[w0.heap.size]? = some (.stringIter s (pos + wd)) := (hb1.block _ hs1).trans hit1
        have hB2 := hB1.trans (hb1.mono hB1.size)
        clear hit1 hb1 hB1
        go_wp2
        exact ⟨⟨pos + wd, hw2, hit2, hB2, HN1⟩, by rw [hme]; simp only [World.iterPos, hit2]; omega⟩
    · obtain rfl : pos = s.size := by omega
      have hnx := fun ty => Lib.run_next_end_at (P := Tryz.prog) wr w0.heap.size s s.size ty hit hlt
      have HF := hide' (noH_end s HN.out)
      clear HN
      go_wp2
      go_ret
      exact ⟨⟨-1, rfl, by rw [HF.out]; simp⟩, hB⟩
end Go.Proofs.YtabmnkddmdffkaaGreatDoor
namespace Go.Proofs.YtabmnkddmdffkaaGreatDoor
open Go.RowKit Go.Shelf

theorem list_ne (a b : ByteArray) (h : a ≠ b) : (a.toList == b.toList) = false := beq_eq_false_iff_ne.2 fun e => h (tl_inj _ _ (by unfold tl; rw [← Lib.toList_data, ← Lib.toList_data]; exact e))
theorem tw_mem (K : List (List UInt8)) (x : List UInt8) (h : x ∈ K) : x.length ≤ tw K := by
  induction K with
  | nil => cases h
  | cons y r ih =>
    rcases List.mem_cons.1 h with rfl | h
    · simp only [tw]; omega
    · have := ih h; simp only [tw]; omega

theorem zero51 : (Tryz.prog.info? 251).map (fun i => (i.zero, i.size)) = some (some (.agg (Array.replicate 256 (.bool false))), 256) := by kernel_rfl
theorem indexAny_has (l : List UInt8) : 0 ≤ Lib.indexAny l [0, 10] ↔ has l = true := by
  induction l with
  | nil => simp [Lib.indexAny, has]
  | cons b r ih =>
    have hge := Lib.indexAny_ge [0, 10] r
    by_cases hb : ([0, 10] : List UInt8).contains b = true
    · have e1 : Lib.indexAny (b :: r) [0, 10] = 0 := by rw [Lib.indexAny, if_pos hb]
      rw [e1]
      have hb' : b = 0 ∨ b = 10 := by simpa using hb
      have e2 : has (b :: r) = true := by unfold has; rcases hb' with rfl | rfl <;> simp
      rw [e2]
      simp
    · have hb' : ¬ (b = 0 ∨ b = 10) := by simpa using hb
      have e2 : has (b :: r) = has r := by
        unfold has
        have h0 : ((0 : UInt8) == b) = false := beq_eq_false_iff_ne.2 fun e => hb' (.inl e.symm)
        have h1 : ((10 : UInt8) == b) = false := beq_eq_false_iff_ne.2 fun e => hb' (.inr e.symm)
        rw [List.contains_cons, List.contains_cons, h0, h1, Bool.false_or, Bool.false_or]
      rw [e2, ← ih, Lib.indexAny, if_neg hb]
      by_cases hm : Lib.indexAny r [0, 10] = -1
      · simp [hm]
      · rw [if_neg (by simpa using hm)]
        omega
theorem small2 : ∀ (j : Nat) b, (⟨#[0, 10]⟩ : ByteArray).data.toList[j]? = some b → b.toNat < 128 := by
  intro j b h
  have hm : b ∈ ([0, 10] : List UInt8) := List.mem_of_getElem? h
  rcases (by simpa using hm : b = 0 ∨ b = 10) with rfl | rfl <;> decide
theorem iany_any (s : ByteArray) (hs : s.size ≤ 1000000) (w : World) :
    Calls Tryz.prog 154 #[.string s, .string ⟨#[0, 10]⟩] w fun e w' => (∃ n : Int, e = .returned (.int .i64 n) ∧ (0 ≤ n ↔ has (tl s) = true)) ∧ Below w.heap.size w w' := by
  by_cases h8 : s.size ≤ 8
  · exact iany_short s h8 w
  · refine (Tryz.strings_IndexAny_long (zero_of_info zero51).1 s ⟨#[0, 10]⟩ w (by decide) (by omega) (by omega) (by decide) small2).mono ?_
    rintro e w' ⟨rfl, rfl⟩
    exact ⟨⟨_, rfl, indexAny_has _⟩, ((Below.refl _ _).alloc (Nat.le_refl _) _).alloc (by simp) _⟩
theorem contains_any (s : ByteArray) (hs : s.size ≤ 1000000) (w : World) :
    Calls Tryz.prog 134 #[.string s, .string ⟨#[0, 10]⟩] w fun e w' => e = .returned (.bool (has (tl s))) ∧ Below w.heap.size w w' := by
  have q := fun w => iany_any s hs w
  cases hh : has (tl s) with
  | true =>
    simp only [hh, iff_true] at q
    go_enter Tryz.func134, Tryz.ntmps134
    go_wp2_with fail
    refine (q _).mono ?_
    rintro e w1 ⟨⟨n, rfl, hn⟩, hb⟩
    go_wp2
    go_ret
    exact ⟨rfl, hb⟩
  | false =>
    simp only [hh, Bool.false_eq_true, iff_false] at q
    go_enter Tryz.func134, Tryz.ntmps134
    go_wp2_with fail
    refine (q _).mono ?_
    rintro e w1 ⟨⟨n, rfl, hn⟩, hb⟩
    have hd : decide (0 ≤ n) = false := decide_eq_false (by omega)
    go_wp2
    go_ret
    exact ⟨by first | rfl | (rw [← hd]; rfl), hb⟩

theorem vname_any (x : List UInt8) (hx : x.length ≤ 1000000) (w : World) :
    Calls Tryz.prog 108 #[sv x] w fun e w' => e = .returned (.bool (okn x)) ∧ Below w.heap.size w w' := by
  have hsz := mk_size x
  rw [okn_has]
  by_cases h : x.length ≤ 255
  · have q := fun w => contains_any (mk x) (by omega) w
    rw [tl_mk x] at q
    rw [decide_eq_true h, Bool.true_and]
    have k1 : ((mk x).size : Int) ≤ 255 := by omega
    have k2 : (x.length : Int) ≤ 255 := by omega
    generalize has x = b at q
    clear hsz k1
    go_enter Tryz.func108, Tryz.ntmps108
    go_wp2_with fail
    refine (q _).mono ?_
    rintro e w1 ⟨rfl, hb⟩
    go_wp2
    go_ret
    exact ⟨rfl, hb⟩
  · rw [decide_eq_false h, Bool.false_and]
    have k1 : ¬ (x.length : Int) ≤ 255 := by omega
    clear hsz
    go_enter Tryz.func108, Tryz.ntmps108
    go_wp2
    go_ret
    exact ⟨rfl, Below.refl _ _⟩

theorem all_take_next (K : List (List UInt8)) (k : Nat) (h : k < K.length) : (K.take (k + 1)).all okn = ((K.take k).all okn && okn (K.getD k [])) := by
  rw [List.take_succ_eq_append_getElem h, List.all_append, List.getD_eq_getElem?_getD, List.getElem?_eq_getElem h]
  simp
theorem all_no (K : List (List UInt8)) (k : Nat) (h : k < K.length) (hn : okn (K.getD k []) = false) : K.all okn = false := by
  rw [← List.take_append_drop (k + 1) K, List.all_append, all_take_next K k h, hn]
  simp
theorem cut_mem_len (s : ByteArray) (k : Nat) : ((cut (tl s)).getD k []).length ≤ s.size + 1 := by
  by_cases h : k < (cut (tl s)).length
  · have hm : (cut (tl s)).getD k [] ∈ cut (tl s) := by rw [List.getD_eq_getElem?_getD, List.getElem?_eq_getElem h]; exact List.getElem_mem h
    have := tw_mem _ _ hm
    rw [cut_tw, tl_len] at this
    exact this
  · rw [List.getD_eq_getElem?_getD, List.getElem?_eq_none (by omega)]
    exact Nat.zero_le _

theorem valid_long (s : ByteArray) (w : World) (h : 1000 < s.size) (hs : s.size ≤ 1000000) :
    Calls Tryz.prog 77 #[.string s] w fun e w' => e = .returned (.bool (valid (tl s))) ∧ Below w.heap.size w w' := by
  have hv : valid (tl s) = false := by unfold valid; rw [tl_len, decide_eq_false (by omega)]; rfl
  rw [hv]
  have k1 : (1000 : Int) < s.size := by omega
  go_enter Tryz.func77, Tryz.ntmps77
  go_wp2
  go_ret
  exact ⟨rfl, Below.refl _ _⟩

set_option maxRecDepth 100000 in
set_option maxHeartbeats 2000000 in
theorem valid_short (s : ByteArray) (w : World) (h : s.size ≤ 1000) :
    Calls Tryz.prog 77 #[.string s] w fun e w' => e = .returned (.bool (valid (tl s))) ∧ Below w.heap.size w w' := by
  have k1 : ¬ (1000 : Int) < s.size := by omega
  have q0 := clean_any s (by omega)
  by_cases hc : clean (tl s) = tl s
  · have hv : valid (tl s) = (cut (tl s)).all okn := by unfold valid; rw [tl_len, decide_eq_true h, decide_eq_true hc]; rfl
    have HV := hide' hv
    rw [hc, mk_tl] at q0
    clear hv hc
    have HL := hide' (cut_mem_len s)
    have q1 := fun w => names_any s (by omega) w
    have hKl := cut_len (tl s)
    rw [tl_len] at hKl
    go_enter Tryz.func77, Tryz.ntmps77
    go_wp2_with fail
    refine (q0 _).mono ?_
    rintro e w0 ⟨rfl, hB0⟩
    go_wp2_with fail
    refine (q1 _).mono ?_
    rintro e w1 ⟨v1, rfl, hrow1, hb1⟩
    have hB1 := hB0.trans (hb1.mono hB0.size)
    obtain ⟨g, cap, rfl, hc1, hc2, hg, hcell, _⟩ := row_form hrow1 (cut_ne _)
    clear hrow1 hB0 hb1 q0 q1
    generalize cut (tl s) = K at hKl hc1 hcell HV HL
    have HC := hide' hcell
    clear hcell
    have hsz1 := hB1.size
    go_wp2
    go_loopw [17] (fun i wr => ∃ k : Nat, k ≤ K.length ∧ i = .int .i64 k ∧ Below w1.heap.size w1 wr ∧ Hid ((K.take k).all okn = true)) (fun i _ => K.length - (intOf i).toNat)
    case atStart => exact ⟨0, Nat.zero_le _, rfl, Below.refl _ _, rfl⟩
    case round =>
      obtain ⟨k, hk, rfl, hB, HA⟩ := hrel
      by_cases hlt : k < K.length
      · have c1 := (hB.cell (p := ⟨g, k, none⟩) hg).trans (HC.out k hlt)
        have hxl := HL.out k
        have q := fun w => vname_any (K.getD k []) (by omega) w
        cases ho : okn (K.getD k []) with
        | true =>
          have HA1 : Hid ((K.take (k + 1)).all okn = true) := by show _ = _; rw [all_take_next K k hlt, HA.out, ho]; rfl
          simp only [ho] at q
          clear ho HA
          generalize K.getD k [] = x at c1 q
          go_wp2_with (go_at_call 108; refine (q _).mono ?_; rintro e w2 ⟨rfl, hb2⟩)
          exact ⟨⟨k + 1, by omega, by go_num, hB.trans (hb2.mono hB.size), HA1⟩, by simp [intOf]; omega⟩
        | false =>
          have HF := hide' (HV.out.trans (all_no K k hlt ho))
          simp only [ho] at q
          clear ho HA
          generalize K.getD k [] = x at c1 q
          go_wp2_with (go_at_call 108; refine (q _).mono ?_; rintro e w2 ⟨rfl, hb2⟩)
          go_ret
          exact ⟨by rw [HF.out]; rfl, hB1.trans ((hB.trans (hb2.mono hB.size)).mono hsz1)⟩
      · have hke : K.take k = K := List.take_of_length_le (by omega)
        have HF : Hid (valid (tl s) = true) := by show _ = _; rw [HV.out, ← hke]; exact HA.out
        clear hke HA
        go_wp2
        go_ret
        exact ⟨by rw [HF.out]; rfl, hB1.trans (hB.mono hsz1)⟩
  · have hv : valid (tl s) = false := by unfold valid; rw [decide_eq_false hc, Bool.and_false, Bool.false_and]
    rw [hv]
    have hne : mk (clean (tl s)) ≠ s := fun e => hc (by rw [← tl_mk (clean (tl s)), e])
    have hn2 := list_ne _ _ hne
    generalize mk (clean (tl s)) = c at q0 hn2
    clear hv hne hc
    go_enter Tryz.func77, Tryz.ntmps77
    go_wp2_with fail
    refine (q0 _).mono ?_
    rintro e w0 ⟨rfl, hB0⟩
    go_wp2
    go_ret
    exact ⟨rfl, hB0⟩

theorem valid_any (s : ByteArray) (w : World) (hs : s.size ≤ 1000000) :
    Calls Tryz.prog 77 #[.string s] w fun e w' => e = .returned (.bool (valid (tl s))) ∧ Below w.heap.size w w' := by
  by_cases h : s.size ≤ 1000
  · exact valid_short s w h
  · exact valid_long s w (by omega) hs
end Go.Proofs.YtabmnkddmdffkaaGreatDoor
