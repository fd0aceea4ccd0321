/- The contracts of refs.bracketed and of anvilref10.closing: both find the byte that closes. -/
import Derived.Test.YthkjinhnnilalaaGreatDoorNest
import Derived.Test.YthkjinhnnilalaaGreatDoorPlain
namespace Go.Proofs.YthkjinhnnilalaaGreatDoor
open Go.RowKit

/-- two numbers are handed back -/
abbrev ret2 (a b : Nat) : Ending := .returned (.tuple #[.int .i64 (a : Int), .int .i64 (b : Int)])
/-- where the count stands at the place k -/
def BrI (l : List UInt8) (o c : UInt8) (a k : Nat) (st : Bs) : Prop :=
  (k = a ∧ st = []) ∨ (a < k ∧ ∃ n, st = List.replicate (n + 1) c ∧ cls o c k n (l.drop k) = cls o c (a + 1) 0 (l.drop (a + 1)))
def brkR (l : List UInt8) (o c : UInt8) (a : Nat) : Nat × Nat := match cls o c (a + 1) 0 (l.drop (a + 1)) with
  | some i => (2, i + 1)
  | none => (3, l.length)
section
variable {s : ByteArray} {o c : UInt8} {a k : Nat} {st : Bs}
theorem bri_open (hk : k < s.size) (hx : s[k] = o) (h : BrI (tl s) o c a k st) : BrI (tl s) o c a (k + 1) (st ++ [c]) := by
  rcases h with ⟨rfl, rfl⟩ | ⟨h1, n, rfl, h2⟩
  · exact .inr ⟨by omega, 0, rfl, rfl⟩
  · refine .inr ⟨by omega, n + 1, by rw [List.replicate_succ' (n := n + 1)], ?_⟩
    rw [drop_at s k hk, hx, cls_open] at h2
    exact h2
theorem bri_shut (hk : k < s.size) (hx : s[k] = c) (hco : ¬ c = o) (ha : a < k) (h : BrI (tl s) o c a k st) : (pop st c = [] ∧ brkR (tl s) o c a = (2, k + 1)) ∨ (pop st c ≠ [] ∧ BrI (tl s) o c a (k + 1) (pop st c)) := by
  rcases h with ⟨rfl, rfl⟩ | ⟨h1, n, rfl, h2⟩
  · omega
  · have e : pop (List.replicate (n + 1) c) c = List.replicate n c := by rw [List.replicate_succ', pop_yes]
    rw [e]
    cases n with
    | zero =>
      left
      rw [drop_at s k hk, hx, cls_end _ _ _ _ hco] at h2
      exact ⟨rfl, by unfold brkR; rw [← h2]⟩
    | succ m =>
      right
      refine ⟨by rw [List.replicate_succ]; simp, .inr ⟨by omega, m, rfl, ?_⟩⟩
      rw [drop_at s k hk, hx, cls_shut _ _ _ _ _ hco] at h2
      exact h2
theorem bri_byte (hk : k < s.size) (hx : ¬ s[k] = o) (hy : ¬ s[k] = c) (ha : a < k) (h : BrI (tl s) o c a k st) : st ≠ [] ∧ BrI (tl s) o c a (k + 1) st := by
  rcases h with ⟨rfl, rfl⟩ | ⟨h1, n, rfl, h2⟩
  · omega
  · refine ⟨by rw [List.replicate_succ]; simp, .inr ⟨by omega, n, rfl, ?_⟩⟩
    rw [drop_at s k hk, cls_byte _ _ _ _ _ _ hx hy] at h2
    exact h2
theorem bri_end (ha : a < s.size) (h : BrI (tl s) o c a s.size st) : brkR (tl s) o c a = (3, s.size) := by
  rcases h with ⟨rfl, rfl⟩ | ⟨h1, n, rfl, h2⟩
  · omega
  · rw [drop_end s s.size (Nat.le_refl _), cls_nil] at h2
    unfold brkR
    rw [← h2, tl_len]
end
set_option maxRecDepth 100000 in
set_option maxHeartbeats 2000000 in
theorem bracketed_any (s : ByteArray) (hs : s.size ≤ 100000) (a : Nat) (ha : a < s.size) (c : UInt8) (hco : ¬ c = s[a]) (w : World) :
    Calls Tryz.prog 71 #[.string s, .int .i64 a, .int .u8 c.toNat] w fun e w' => e = ret2 (brkR (tl s) s[a] c a).1 (brkR (tl s) s[a] c a).2 ∧ Below w.heap.size w w' := by
  go_enter Tryz.func71, Tryz.ntmps71
  go_wp2
  go_loopw [9] (fun i wr => ∃ (k : Nat) (st : Bs) (ov : Value), a ≤ k ∧ k ≤ s.size ∧ i = .int .i64 k ∧ NestAt wr w.heap.size w.heap.size st ov ∧ Below w.heap.size w wr ∧ st.length ≤ k ∧ Hid (BrI (tl s) s[a] c a k st)) (fun i _ => s.size - (intOf i).toNat)
  case atStart => exact ⟨a, [], _, Nat.le_refl _, by omega, rfl, nest_new w, (Below.refl _ w).alloc (Nat.le_refl _) _, Nat.zero_le _, .inl ⟨rfl, rfl⟩⟩
  case round =>
    obtain ⟨k, st, ov, hak, hk, rfl, hN, hB, hst, HI⟩ := hrel
    have hsz := hB.size
    by_cases hlt : k < s.size
    · by_cases h1 : s[k] = s[a]
      · have d1 : ((s[k].toNat : Int) == (s[a].toNat : Int)) = true := beq_yes _ _ _ rfl h1
        have HI' := hide' (bri_open hlt h1 HI.out)
        have kE := enter_any wr w.heap.size w.heap.size st ov c hN (by omega)
        have hge := hN.ge
        clear h1 HI hN
        go_wp2_with (go_at_call 86; refine kE.mono ?_; rintro e w1 ⟨rfl, ht, ov', hn'⟩)
        have kN := none_any _ _ _ _ _ hn'
        have hB' := hB.trans (ht.below hsz hge)
        rw [show decide ((st ++ [c]).length = 0) = false by simp] at kN
        clear kE ht hB hge
        go_wp2_with (go_at_call 88; refine kN.mono ?_; rintro e w2 ⟨rfl, rfl⟩)
        exact ⟨⟨k + 1, st ++ [c], ov', by omega, by omega, by go_num, hn', hB', by simp; omega, HI'⟩, by simp [intOf]; omega⟩
      · have hak' : a < k := by
          rcases Nat.lt_or_ge a k with h | h
          · exact h
          · obtain rfl : k = a := by omega
            exact absurd rfl h1
        have d1 : ((s[k].toNat : Int) == (s[a].toNat : Int)) = false := beq_no _ _ _ rfl h1
        by_cases h2 : s[k] = c
        · have d2 : ((s[k].toNat : Int) == (c.toNat : Int)) = true := beq_yes _ _ _ rfl h2
          have kL := leave_any wr w.heap.size w.heap.size st ov c hN (by omega)
          have hge := hN.ge
          have hpl : (pop st c).length ≤ st.length := by unfold pop; split <;> simp
          rcases bri_shut hlt h2 hco hak' HI.out with ⟨h3, h4⟩ | ⟨h3, h4⟩
          · have HR := hide' h4
            clear h1 h2 HI hN h4
            go_wp2_with (go_at_call 87; refine kL.mono ?_; rintro e w1 ⟨rfl, ht, ov', hn'⟩)
            have kN := none_any _ _ _ _ _ hn'
            have hB' := hB.trans (ht.below hsz hge)
            rw [show decide ((pop st c).length = 0) = true by rw [h3]; rfl] at kN
            clear kL ht hB hge h3
            go_wp2_with (go_at_call 88; refine kN.mono ?_; rintro e w2 ⟨rfl, rfl⟩)
            go_ret2
            rw [HR.out]
            exact ⟨by simp, hB'⟩
          · have HI' := hide' h4
            have d3 : decide ((pop st c).length = 0) = false := decide_eq_false fun e => h3 (List.length_eq_zero_iff.1 e)
            clear h1 h2 HI hN h4 h3
            go_wp2_with (go_at_call 87; refine kL.mono ?_; rintro e w1 ⟨rfl, ht, ov', hn'⟩)
            have kN := none_any _ _ _ _ _ hn'
            have hB' := hB.trans (ht.below hsz hge)
            rw [d3] at kN
            clear kL ht hB hge d3
            go_wp2_with (go_at_call 88; refine kN.mono ?_; rintro e w2 ⟨rfl, rfl⟩)
            exact ⟨⟨k + 1, pop st c, ov', by omega, by omega, by go_num, hn', hB', by omega, HI'⟩, by simp [intOf]; omega⟩
        · have d2 : ((s[k].toNat : Int) == (c.toNat : Int)) = false := beq_no _ _ _ rfl h2
          obtain ⟨h3, h4⟩ := bri_byte hlt h1 h2 hak' HI.out
          have HI' := hide' h4
          have kN := none_any _ _ _ _ _ hN
          rw [show decide (st.length = 0) = false from decide_eq_false fun e => h3 (List.length_eq_zero_iff.1 e)] at kN
          clear h1 h2 HI h4 h3
          go_wp2_with (go_at_call 88; refine kN.mono ?_; rintro e w2 ⟨rfl, rfl⟩)
          exact ⟨⟨k + 1, st, ov, by omega, by omega, by go_num, hN, hB, by omega, HI'⟩, by simp [intOf]; omega⟩
    · obtain rfl : k = s.size := by omega
      have HR := hide' (bri_end ha HI.out)
      clear HI hN
      go_wp2
      go_ret2
      rw [HR.out]
      exact ⟨by simp, hB⟩
end Go.Proofs.YthkjinhnnilalaaGreatDoor
