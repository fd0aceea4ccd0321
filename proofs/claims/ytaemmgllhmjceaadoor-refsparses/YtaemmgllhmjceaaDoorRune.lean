/- The contract of strings.IndexRune at the text of the three blanks and a rune that is no ASCII: nothing is found. -/
import Derived.Test.YtaemmgllhmjceaaDoorPlain
import Derived.Test.YtaemmgllhmjceaaDoorShelf
import Derived.Laws.Runes
import Derived.Deep.QuietTactic
import Derived.BigQuiet
namespace Go.Proofs.YtaemmgllhmjceaaDoor
open Go.RowKit Go.Shelf

set_option maxRecDepth 100000 in
set_option maxHeartbeats 2000000 in
theorem irune_err (w : World) :
    Calls Tryd.prog 43 #[.string ⟨#[32, 9, 10]⟩, .int .i32 65533] w fun e w' => e = .returned (.int .i64 (-1)) ∧ Below w.heap.size w w' := by
  have n0 := fun ty => run_next_ascii (P := Tryd.prog) w ⟨#[32, 9, 10]⟩ 0 ty (by decide) (by decide)
  have n1 := fun ty => run_next_ascii (P := Tryd.prog) w ⟨#[32, 9, 10]⟩ 1 ty (by decide) (by decide)
  have n2 := fun ty => run_next_ascii (P := Tryd.prog) w ⟨#[32, 9, 10]⟩ 2 ty (by decide) (by decide)
  have n3 := fun ty => run_next_end (P := Tryd.prog) w ⟨#[32, 9, 10]⟩ 3 ty (by decide)
  go_enter Tryd.func43, Tryd.ntmps43
  go_wp2
  go_loopw [] (fun wr => ∃ pos : Nat, pos ≤ 3 ∧ wr = w.iter ⟨#[32, 9, 10]⟩ pos) (fun wr => 3 - wr.iterPos w.heap.size)
  case atStart => exact ⟨0, by omega, rfl⟩
  case round =>
    obtain ⟨pos, hp, rfl⟩ := hrel
    have hme : ∀ p, (w.iter ⟨#[32, 9, 10]⟩ p).iterPos w.heap.size = p := fun p => by simp only [World.iterPos, World.iter_heap]
    rcases (by omega : pos = 0 ∨ pos = 1 ∨ pos = 2 ∨ pos = 3) with rfl | rfl | rfl | rfl
    · go_wp2
      exact ⟨⟨1, by omega, rfl⟩, by rw [hme, hme]; omega⟩
    · go_wp2
      exact ⟨⟨2, by omega, rfl⟩, by rw [hme, hme]; omega⟩
    · go_wp2
      exact ⟨⟨3, by omega, rfl⟩, by rw [hme, hme]; omega⟩
    · go_wp2
      go_ret
      exact ⟨rfl, (Below.refl _ w).alloc (Nat.le_refl _) _⟩

set_option maxRecDepth 100000 in
set_option maxHeartbeats 2000000 in
theorem irune_bad (r : Int) (h1 : 128 ≤ r) (h2 : r ≠ 65533) (hv : Lib.validRune r = false) (w : World) :
    Calls Tryd.prog 43 #[.string ⟨#[32, 9, 10]⟩, .int .i32 r] w fun e w' => e = .returned (.int .i64 (-1)) ∧ Below w.heap.size w w' := by
  have k1 : ¬ r < 128 := by omega
  have k0 : (0 : Int) ≤ r := by omega
  have k2 : (r == 65533) = false := beq_eq_false_iff_ne.2 h2
  have hV := fun w => Tryd.utf8_ValidRune r w
  simp only [hv] at hV
  clear hv h2
  go_enter Tryd.func43, Tryd.ntmps43
  go_wp2_with (go_at_call 51; refine (hV _).mono ?_; rintro e w' ⟨rfl, rfl⟩)
  go_ret
  exact ⟨rfl, Below.refl _ _⟩

set_option maxRecDepth 100000 in
set_option maxHeartbeats 2000000 in
theorem irune_ok (r : Int) (h1 : 128 ≤ r) (h2 : r ≠ 65533) (hv : Lib.validRune r = true) (w : World) :
    Calls Tryd.prog 43 #[.string ⟨#[32, 9, 10]⟩, .int .i32 r] w fun e w' => e = .returned (.int .i64 (-1)) ∧ Below w.heap.size w w' := by
  have hval : Utf8.valid r = true := by
    simp only [Lib.validRune, decide_eq_true_eq] at hv
    simp only [Utf8.valid, Bool.or_eq_true, Bool.and_eq_true, decide_eq_true_eq]
    omega
  obtain ⟨e1, e2, e3⟩ := encode_facts r hval h1
  have k1 : ¬ r < 128 := by omega
  have k0 : (0 : Int) ≤ r := by omega
  have k2 : (r == 65533) = false := beq_eq_false_iff_ne.2 h2
  have hV := fun w => Tryd.utf8_ValidRune r w
  simp only [hv] at hV
  clear hv h2 hval
  obtain ⟨E, hE⟩ : ∃ E, E = Utf8.encode r := ⟨_, rfl⟩
  rw [← hE] at e1 e2 e3
  have hE' := hE.symm
  obtain ⟨n, hn⟩ : ∃ n, E.size = n + 1 := ⟨E.size - 1, by omega⟩
  have hlt : n < E.size := by omega
  have hb : 128 ≤ (E[n]'hlt).toNat := by have := e3 (by omega); simpa [hn] using this
  obtain ⟨b, hbe⟩ : ∃ b, E[n]'hlt = b := ⟨_, rfl⟩
  rw [hbe] at hb
  have hz : ((E.size : Int) - 1) = n := by omega
  have hn2 : 1 ≤ n := by omega
  have hn3 : n ≤ 3 := by omega
  clear hE e1 e2 e3
  go_enter Tryd.func43, Tryd.ntmps43
  go_wp2_with (go_at_call 51; refine (hV _).mono ?_; rintro e w' ⟨rfl, rfl⟩)
  go_step3
  go_wp2
  go_loopw [9, 10] (fun i f wr => i = .int .i64 n ∧ f = .int .i64 0 ∧ wr = w') (fun _ _ _ => 0)
  case atStart => exact ⟨by go_num, rfl, rfl⟩
  case round =>
    obtain ⟨rfl, rfl, rfl⟩ := hrel
    by_cases h3 : 3 ≤ n
    · have d1 : ¬ (n : Int) < 3 := by omega
      go_wp2
      go_ret
      exact ⟨rfl, Below.refl _ _⟩
    rcases (by omega : n = 1 ∨ n = 2) with rfl | rfl
    · have d2 : ((((⟨#[32, 9, 10]⟩ : ByteArray)[1]'(by decide)).toNat : Int) != (b.toNat : Int)) = true := by
        show ((9 : Int) != (b.toNat : Int)) = true
        rw [bne_iff_ne]
        omega
      have q : ∀ w, Calls Tryd.prog 50 #[.string ⟨#[10]⟩, .int .u8 b.toNat] w fun e w' => e = .returned (.int .i64 (-1)) ∧ w' = w := fun w => by
        have q0 := Tryd.strings_IndexByte ⟨#[10]⟩ (b.toNat : Int) w
        have hb2 : ((b.toNat : Int)).toNat.toUInt8 = b := by simp
        rw [hb2] at q0
        have hne : ¬ (10 : UInt8) = b := fun e => by rw [← e] at hb; exact absurd hb (by decide)
        have e1 : Lib.indexByte (⟨#[10]⟩ : ByteArray).data.toList b = -1 := by
          show Lib.indexByte [10] b = -1
          simp [Lib.indexByte, hne]
        rwa [e1] at q0
      have hw2 : IntKind.i64.wrap 2 = 2 := by decide
      have hw3 : IntKind.i64.wrap (1 + 1) = 2 := by decide
      go_wp2
      go_step3
      go_wp2
      go_region
      go_wp2
      go_quiet ((go_at_call 50; exact (q _).mono fun _ _ h => ⟨h.1, _, h.2⟩))
      go_wp2
      rw [Exit.noGoto_ret]
      go_wp2
      try rw [Exit.noGoto_ret]
      go_ret
      exact ⟨rfl, ⟨rfl, rfl, rfl, Nat.le_refl _, fun _ _ => rfl⟩⟩
    · have d2 : ((((⟨#[32, 9, 10]⟩ : ByteArray)[2]'(by decide)).toNat : Int) != (b.toNat : Int)) = true := by
        show ((10 : Int) != (b.toNat : Int)) = true
        rw [bne_iff_ne]
        omega
      have q : ∀ w, Calls Tryd.prog 50 #[.string ByteArray.empty, .int .u8 b.toNat] w fun e w' => e = .returned (.int .i64 (-1)) ∧ w' = w := fun w => Tryd.strings_IndexByte _ _ w
      have hw2 : IntKind.i64.wrap 3 = 3 := by decide
      have hw3 : IntKind.i64.wrap (2 + 1) = 3 := by decide
      go_wp2
      go_step3
      go_wp2
      go_region
      go_wp2
      go_quiet ((go_at_call 50; exact (q _).mono fun _ _ h => ⟨h.1, _, h.2⟩))
      go_wp2
      rw [Exit.noGoto_ret]
      go_wp2
      try rw [Exit.noGoto_ret]
      go_ret
      exact ⟨rfl, ⟨rfl, rfl, rfl, Nat.le_refl _, fun _ _ => rfl⟩⟩
end Go.Proofs.YtaemmgllhmjceaaDoor
