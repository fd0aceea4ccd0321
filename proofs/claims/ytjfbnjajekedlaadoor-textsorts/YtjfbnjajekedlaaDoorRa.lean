/- Plain lists of bytes, of no program: a text with each place of another replaced, gone through byte by byte; it is the library's own replacement, and how long it is. -/
import Derived.Lib.Replace
import Derived.Lib.ReplaceLaws
namespace Go.Proofs.YtjfbnjajekedlaaDoor

def raF (f t : List UInt8) : Nat → List UInt8 → List UInt8
  | 0, l => l
  | _ + 1, [] => []
  | n + 1, c :: r => if f.isPrefixOf (c :: r) then t ++ raF f t n ((c :: r).drop f.length) else c :: raF f t n r
def ra (f t l : List UInt8) : List UInt8 := raF f t l.length l

theorem raF_nil (f t : List UInt8) (n : Nat) : raF f t n [] = [] := by cases n <;> rfl
theorem raF_fuel (f t : List UInt8) (hf : f ≠ []) : ∀ (n m : Nat) (l : List UInt8), l.length ≤ n → l.length ≤ m → raF f t n l = raF f t m l := by
  have hp : 0 < f.length := List.length_pos_iff.2 hf
  intro n
  induction n with
  | zero =>
    intro m l h1 _
    have e : l = [] := List.length_eq_zero_iff.1 (by omega)
    subst e
    rw [raF_nil, raF_nil]
  | succ n ih =>
    intro m l h1 h2
    cases l with
    | nil => rw [raF_nil, raF_nil]
    | cons c r =>
      cases m with
      | zero => simp at h2
      | succ m =>
        simp only [List.length_cons] at h1 h2
        unfold raF
        split
        · rw [ih m _ (by rw [List.length_drop, List.length_cons]; omega) (by rw [List.length_drop, List.length_cons]; omega)]
        · rw [ih m r (by omega) (by omega)]
theorem ra_nil (f t : List UInt8) : ra f t [] = [] := rfl
theorem ra_hit (f t : List UInt8) (hf : f ≠ []) (c : UInt8) (r : List UInt8) (h : f.isPrefixOf (c :: r) = true) : ra f t (c :: r) = t ++ ra f t ((c :: r).drop f.length) := by
  have hp : 0 < f.length := List.length_pos_iff.2 hf
  unfold ra
  conv => lhs; rw [List.length_cons]; unfold raF
  rw [if_pos h, raF_fuel f t hf r.length ((c :: r).drop f.length).length _ (by rw [List.length_drop, List.length_cons]; omega) (Nat.le_refl _)]
theorem ra_miss (f t : List UInt8) (c : UInt8) (r : List UInt8) (h : f.isPrefixOf (c :: r) = false) : ra f t (c :: r) = c :: ra f t r := by
  unfold ra
  conv => lhs; rw [List.length_cons]; unfold raF
  rw [if_neg (by rw [h]; decide)]

theorem index_cons_miss (f : List UInt8) (c : UInt8) (r : List UInt8) (h : f.isPrefixOf (c :: r) = false) : Lib.index (c :: r) f = if Lib.index r f == -1 then -1 else Lib.index r f + 1 := by
  conv => lhs; unfold Lib.index
  rw [if_neg (by rw [h]; decide)]
theorem index_cons_hit (f : List UInt8) (c : UInt8) (r : List UInt8) (h : f.isPrefixOf (c :: r) = true) : Lib.index (c :: r) f = 0 := by
  unfold Lib.index
  rw [if_pos h]
theorem count_cons_miss (f : List UInt8) (hf : f ≠ []) (c : UInt8) (r : List UInt8) (h : f.isPrefixOf (c :: r) = false) : Lib.count (c :: r) f = Lib.count r f := by
  have hi := index_cons_miss f c r h
  have hge := Lib.index_ge r f
  by_cases hm : Lib.index r f = -1
  · rw [hm] at hi
    rw [Lib.count_miss hm, Lib.count_miss hi]
  · obtain ⟨i, e⟩ : ∃ i : Nat, Lib.index r f = i := ⟨(Lib.index r f).toNat, by omega⟩
    rw [if_neg (fun e' => hm (beq_iff_eq.1 e')), e] at hi
    rw [Lib.count_hit hf e, Lib.count_hit (i := i + 1) hf (by rw [hi]; rfl), show i + 1 + f.length = (i + f.length) + 1 by omega, List.drop_succ_cons]
theorem replaceK_cons_miss (f t : List UInt8) (k : Nat) (c : UInt8) (r : List UInt8) (h : f.isPrefixOf (c :: r) = false) : Lib.replaceK f t k (c :: r) = c :: Lib.replaceK f t k r := by
  cases k with
  | zero => rfl
  | succ k =>
    have hi := index_cons_miss f c r h
    have hge := Lib.index_ge r f
    by_cases hm : Lib.index r f = -1
    · rw [hm] at hi
      unfold Lib.replaceK
      rw [hm, hi]
      rfl
    · obtain ⟨i, e⟩ : ∃ i : Nat, Lib.index r f = i := ⟨(Lib.index r f).toNat, by omega⟩
      rw [if_neg (fun e' => hm (beq_iff_eq.1 e')), e] at hi
      rw [Lib.replaceK_hit f t k r i e, Lib.replaceK_hit f t k (c :: r) (i + 1) (by rw [hi]; rfl), show i + 1 + f.length = (i + f.length) + 1 by omega, List.drop_succ_cons, List.take_succ_cons]
      rfl
theorem replaceK_ra (f t : List UInt8) (hf : f ≠ []) : ∀ (n : Nat) (l : List UInt8), l.length ≤ n → Lib.replaceK f t (Lib.count l f) l = ra f t l := by
  have hp : 0 < f.length := List.length_pos_iff.2 hf
  intro n
  induction n with
  | zero =>
    intro l h
    have e : l = [] := List.length_eq_zero_iff.1 (by omega)
    subst e
    have hm : Lib.index [] f = -1 := by
      unfold Lib.index
      rw [if_neg]
      cases f with
      | nil => exact absurd rfl hf
      | cons _ _ => simp
    rw [Lib.count_miss hm]
    rfl
  | succ n ih =>
    intro l h
    cases l with
    | nil => exact ih [] (Nat.zero_le _)
    | cons c r =>
      cases hb : f.isPrefixOf (c :: r) with
      | true =>
        have hi := index_cons_hit f c r hb
        rw [Lib.count_hit (i := 0) hf hi, Nat.add_comm, Lib.replaceK_hit f t _ (c :: r) 0 hi, ra_hit f t hf c r hb]
        simp only [List.take_zero, List.nil_append, Nat.zero_add]
        rw [ih ((c :: r).drop f.length) (by rw [List.length_drop]; omega)]
      | false =>
        rw [count_cons_miss f hf c r hb, replaceK_cons_miss f t _ c r hb, ra_miss f t c r hb, ih r (by simp at h; omega)]
theorem prefix_eq (f l : List UInt8) (h : f.isPrefixOf l = true) : f ++ l.drop f.length = l := by
  obtain ⟨x, rfl⟩ := List.isPrefixOf_iff_prefix.1 h
  simp
theorem ra_same (f : List UInt8) (hf : f ≠ []) : ∀ (n : Nat) (l : List UInt8), l.length ≤ n → ra f f l = l := by
  have hp : 0 < f.length := List.length_pos_iff.2 hf
  intro n
  induction n with
  | zero =>
    intro l h
    have e : l = [] := List.length_eq_zero_iff.1 (by omega)
    subst e
    rfl
  | succ n ih =>
    intro l h
    cases l with
    | nil => rfl
    | cons c r =>
      cases hb : f.isPrefixOf (c :: r) with
      | true => rw [ra_hit f f hf c r hb, ih _ (by rw [List.length_drop]; omega), prefix_eq f _ hb]
      | false => rw [ra_miss f f c r hb, ih r (by simp at h; omega)]
theorem replaceAll_ra (f t : List UInt8) (hf : f ≠ []) (l : List UInt8) : Lib.replaceAll l f t = ra f t l := by
  unfold Lib.replaceAll Lib.replace Lib.replaceNum
  split
  · rename_i h
    rw [← beq_iff_eq.1 h, ra_same f hf _ l (Nat.le_refl _)]
  · rw [if_pos (Or.inl (by decide)), replaceK_ra f t hf _ l (Nat.le_refl _)]
theorem ra_length (f t : List UInt8) (hf : f ≠ []) : ∀ (n : Nat) (l : List UInt8), l.length ≤ n → ((ra f t l).length : Int) = l.length + (Lib.count l f : Int) * ((t.length : Int) - f.length) := by
  have hp : 0 < f.length := List.length_pos_iff.2 hf
  intro n
  induction n with
  | zero =>
    intro l h
    have e : l = [] := List.length_eq_zero_iff.1 (by omega)
    subst e
    have hm : Lib.index [] f = -1 := by
      unfold Lib.index
      rw [if_neg]
      cases f with
      | nil => exact absurd rfl hf
      | cons _ _ => simp
    rw [Lib.count_miss hm, ra_nil]
    simp
  | succ n ih =>
    intro l h
    cases l with
    | nil => exact ih [] (Nat.zero_le _)
    | cons c r =>
      cases hb : f.isPrefixOf (c :: r) with
      | true =>
        have hi := index_cons_hit f c r hb
        have hle : f.length ≤ (c :: r).length := (List.isPrefixOf_iff_prefix.1 hb).length_le
        have := ih ((c :: r).drop f.length) (by rw [List.length_drop]; omega)
        rw [ra_hit f t hf c r hb, Lib.count_hit (i := 0) hf hi, Nat.zero_add, List.length_append, Int.natCast_add, this, List.length_drop]
        generalize Lib.count ((c :: r).drop f.length) f = q
        rw [Int.natCast_add, Int.add_mul]
        omega
      | false =>
        rw [ra_miss f t c r hb, count_cons_miss f hf c r hb, List.length_cons, List.length_cons, Int.natCast_add, ih r (by simp at h; omega)]
        omega
end Go.Proofs.YtjfbnjajekedlaaDoor
