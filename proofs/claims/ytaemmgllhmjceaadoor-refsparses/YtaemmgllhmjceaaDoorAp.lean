/- Plain: a function's arguments, cut at the commas that no bracket holds. -/
import Derived.Test.YtaemmgllhmjceaaDoorPlain
import Derived.Test.YtaemmgllhmjceaaDoorNest
namespace Go.Proofs.YtaemmgllhmjceaaDoor

def popB (st : List Bool) (b : Bool) : List Bool := if st.getLast? = some b then st.dropLast else st
/-- the pieces of what is left: what is open (true: a round one), the piece so far, the pieces ahead of it -/
def arg (m : Int) : List Bool → List UInt8 → List (List UInt8) → List UInt8 → List (List UInt8)
  | _, cur, acc, [] => acc ++ [cur]
  | st, cur, acc, c :: r =>
    if c = 40 then arg m (st ++ [true]) (cur ++ [c]) acc r
    else if c = 123 then arg m (st ++ [false]) (cur ++ [c]) acc r
    else if c = 41 then arg m (popB st true) (cur ++ [c]) acc r
    else if c = 125 then arg m (popB st false) (cur ++ [c]) acc r
    else if c = 44 ∧ st = [] ∧ ¬ (acc.length : Int) + 1 = m then arg m st [] (acc ++ [cur]) r
    else arg m st (cur ++ [c]) acc r
/-- the piece from a up to k -/
def pc (l : List UInt8) (a k : Nat) : List UInt8 := (l.drop a).take (k - a)
theorem pc_none (l : List UInt8) (k : Nat) : pc l k k = [] := by unfold pc; rw [Nat.sub_self]; rfl
theorem pc_more (s : ByteArray) (a k : Nat) (ha : a ≤ k) (h : k < s.size) : pc (tl s) a (k + 1) = pc (tl s) a k ++ [s[k]] := by
  unfold pc
  have hl : k - a < ((tl s).drop a).length := by rw [List.length_drop, tl_len]; omega
  rw [show k + 1 - a = (k - a) + 1 by omega, List.take_succ_eq_append_getElem hl]
  congr 2
  rw [List.getElem_drop]
  have e : a + (k - a) = k := by omega
  simp only [e]
  rfl
theorem pc_ext (s : ByteArray) (a k : Nat) : s.extract a k = mk (pc (tl s) a k) := ext_mk s a k
theorem pc_len (l : List UInt8) (a k : Nat) : (pc l a k).length ≤ k - a := by unfold pc; rw [List.length_take]; omega
theorem pc_end (s : ByteArray) (a : Nat) : s.extract a s.size = mk (pc (tl s) a s.size) := ext_mk s a s.size
def clB (b : Bool) : UInt8 := if b then 41 else 125
def opB (b : Bool) : UInt8 := if b then 40 else 123
theorem clB_inj (a b : Bool) (h : clB a = clB b) : a = b := by cases a <;> cases b <;> first | rfl | (exact absurd h (by decide))
theorem opB_inj (a b : Bool) (h : opB a = opB b) : a = b := by cases a <;> cases b <;> first | rfl | (exact absurd h (by decide))
theorem popB_snoc (os : List Bool) (b c : Bool) : popB (os ++ [b]) c = if b = c then os else os ++ [b] := by unfold popB; simp
theorem pop_map (f : Bool → UInt8) (hf : ∀ a b, f a = f b → a = b) (st : List Bool) (b : Bool) : pop (st.map f) (f b) = (popB st b).map f := by
  rcases List.eq_nil_or_concat st with rfl | ⟨os, x, rfl⟩
  · rfl
  · rw [List.concat_eq_append, popB_snoc, List.map_append]
    by_cases h : x = b
    · subst h; rw [if_pos rfl]; exact pop_yes _ _
    · rw [if_neg h, List.map_append]; exact pop_no _ _ _ (fun e => h (hf _ _ e))
theorem popB_len (st : List Bool) (b : Bool) : (popB st b).length ≤ st.length := by unfold popB; split <;> simp
section
variable {m : Int} {s : ByteArray} {k f : Nat} {st : List Bool} {acc R : List (List UInt8)}
/-- where the cut stands -/
def ArI (m : Int) (s : ByteArray) (R : List (List UInt8)) (k f : Nat) (st : List Bool) (acc : List (List UInt8)) : Prop := arg m st (pc (tl s) f k) acc ((tl s).drop k) = R
theorem ari_open (hk : k < s.size) (hf : f ≤ k) (b : Bool) (hc : s[k] = opB b) (h : ArI m s R k f st acc) : ArI m s R (k + 1) f (st ++ [b]) acc := by
  unfold ArI at *
  rw [drop_at s k hk] at h
  rw [pc_more s f k hf hk, ← h, hc]
  cases b <;> simp [arg, opB]
theorem ari_shut (hk : k < s.size) (hf : f ≤ k) (b : Bool) (hc : s[k] = clB b) (h : ArI m s R k f st acc) : ArI m s R (k + 1) f (popB st b) acc := by
  unfold ArI at *
  rw [drop_at s k hk] at h
  rw [pc_more s f k hf hk, ← h, hc]
  cases b <;> simp [arg, clB]
theorem ari_cut (hk : k < s.size) (hc : s[k] = 44) (hst : st = []) (hm : ¬ (acc.length : Int) + 1 = m) (h : ArI m s R k f st acc) : ArI m s R (k + 1) (k + 1) st (acc ++ [pc (tl s) f k]) := by
  unfold ArI at *
  rw [drop_at s k hk] at h
  rw [pc_none, ← h, hc]
  simp [arg, hst, hm]
theorem ari_byte (hk : k < s.size) (hf : f ≤ k) (h1 : ¬ s[k] = 40) (h2 : ¬ s[k] = 123) (h3 : ¬ s[k] = 41) (h4 : ¬ s[k] = 125) (h5 : ¬ (s[k] = 44 ∧ st = [] ∧ ¬ (acc.length : Int) + 1 = m)) (h : ArI m s R k f st acc) : ArI m s R (k + 1) f st acc := by
  unfold ArI at *
  rw [drop_at s k hk] at h
  rw [pc_more s f k hf hk, ← h]
  rw [arg, if_neg h1, if_neg h2, if_neg h3, if_neg h4, if_neg h5]
theorem ari_end (h : ArI m s R s.size f st acc) : acc ++ [pc (tl s) f s.size] = R := by
  unfold ArI at h
  rw [drop_end s s.size (Nat.le_refl _)] at h
  rw [← h, arg]
end
end Go.Proofs.YtaemmgllhmjceaaDoor
