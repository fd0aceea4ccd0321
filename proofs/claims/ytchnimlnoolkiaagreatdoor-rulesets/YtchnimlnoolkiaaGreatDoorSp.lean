/- Plain lists of bytes: what a line is whose assignment is put together of a name, blanks, a sign and a value. -/
import Derived.Test.YtchnimlnoolkiaaGreatDoorTake
namespace Go.Proofs.YtchnimlnoolkiaaGreatDoor
open Go.RowKit Go.Shelf

theorem gd_left {a b : Bs} {i : Nat} (h : i < a.length) : (a ++ b).getD i 0 = a.getD i 0 := by
  rw [List.getD_eq_getElem?_getD, List.getD_eq_getElem?_getD, List.getElem?_append_left h]
theorem gd_at (a b : Bs) (c : UInt8) : (a ++ c :: b).getD a.length 0 = c := by
  rw [List.getD_eq_getElem?_getD, List.getElem?_append_right (Nat.le_refl _)]
  simp
theorem gd_mem {a : Bs} {i : Nat} (h : i < a.length) : a.getD i 0 ∈ a := by
  rw [List.getD_eq_getElem?_getD, List.getElem?_eq_getElem h]
  exact List.getElem_mem h
theorem bg_byte (l : Bs) (k : Nat) (h : l.getD k 0 ≠ 36) : bg l k = (0, k + 1) := by
  unfold bg
  rw [if_neg (fun x => h x.1)]
theorem scn_first (st l : Bs) (q : Nat) (hq : q < l.length) (h0 : l.getD q 0 ≠ 36) (hst : stp st (l.getD q 0) = true) (hp : ∀ i, i < q → l.getD i 0 ≠ 36 ∧ stp st (l.getD i 0) = false) : ∀ f k, k ≤ q → q - k < f → scn st l f k = some q := by
  intro f
  induction f with
  | zero => intro k _ h; omega
  | succ f ih =>
    intro k hk hf
    by_cases e : k = q
    · subst e
      exact scn_yes st l f k hq (by rw [bg_byte l k h0]) hst
    · have hb := hp k (by omega)
      rw [scn_no st l f k (by omega) (fun x => by rw [hb.2] at x; cases x.2), bg_byte l k hb.1]
      exact ih (k + 1) (by omega) (by omega)
/-- the first stop stands behind bytes that are none -/
theorem scn_pre (st pre r : Bs) (c : UInt8) (h0 : c ≠ 36) (hc : st.contains c = true) (hp : ∀ x ∈ pre, x ≠ 36 ∧ st.contains x = false) (f : Nat) (hf : pre.length < f) : scn st (pre ++ c :: r) f 0 = some pre.length := by
  refine scn_first st _ pre.length (by simp) (by rw [gd_at]; exact h0) (by rw [gd_at]; unfold stp; rw [hc, Bool.and_true]; exact bne_iff_ne.2 h0) (fun i hi => ?_) f 0 (Nat.zero_le _) (by omega)
  rw [gd_left hi]
  have := hp _ (gd_mem hi)
  exact ⟨this.1, by unfold stp; rw [this.2, Bool.and_false]⟩
theorem bl_tx (c : UInt8) : Tx.bl c = bl c := rfl
theorem lb_app : ∀ (a r : Bs) (x : UInt8), (∀ y ∈ a, bl y = true) → bl x = false → Tx.lb (a ++ x :: r) = a.length
  | [], r, x, _, hx => Tx.lb_no x r hx
  | y :: a, r, x, ha, hx => by
    rw [List.cons_append, Tx.lb_yes y _ (ha y (List.mem_cons_self ..)), lb_app a r x (fun z hz => ha z (List.mem_cons_of_mem _ hz)) hx]
    rfl
theorem rend_tail (l : Bs) (i m : Nat) (hi : i ≤ m) : ∀ j, (∀ t, m ≤ t → t < m + j → bl (l.getD t 0) = true) → Tx.rend l i (m + j) = Tx.rend l i m
  | 0, _ => rfl
  | j + 1, h => by
    rw [show m + (j + 1) = (m + j) + 1 by omega, Tx.rend_go l i (m + j) (by omega) (h (m + j) (by omega) (by omega))]
    exact rend_tail l i m hi j (fun t h1 h2 => h t h1 (by omega))
/-- blanks around go -/
theorem trimmed_mid (a b c : Bs) (ha : ∀ y ∈ a, bl y = true) (hc : ∀ y ∈ c, bl y = true) (x : UInt8) (b0 : Bs) (hb : b = x :: b0) (hx : bl x = false) (hl : bl (b.getD (b.length - 1) 0) = false) : Tx.trimmed (mk (a ++ b ++ c)) = mk b := by
  have hlb : 1 ≤ b.length := by rw [hb]; simp
  have hd : (mk (a ++ b ++ c)).data.toList = a ++ b ++ c := by simp
  have h1 : Tx.lb (a ++ b ++ c) = a.length := by
    rw [hb, List.append_assoc, List.cons_append]
    exact lb_app a _ x ha hx
  have h2 : Tx.rend (a ++ b ++ c) a.length (a ++ b ++ c).length = a.length + b.length := by
    have hlen : (a ++ b ++ c).length = (a.length + b.length) + c.length := by simp; omega
    rw [hlen, rend_tail _ _ (a.length + b.length) (by omega) c.length (fun t h3 h4 => by
      rw [List.getD_eq_getElem?_getD, List.getElem?_append_right (by simp; omega)]
      have h5 : t - (a ++ b).length < c.length := by simp; omega
      rw [List.getElem?_eq_getElem h5]
      exact hc _ (List.getElem_mem h5))]
    have e : a.length + b.length = (a.length + b.length - 1) + 1 := by omega
    rw [e]
    refine Tx.rend_stop _ _ _ (fun h3 => ?_)
    have h4 := h3.2
    rw [gd_left (by simp; omega), List.getD_eq_getElem?_getD, List.getElem?_append_right (by omega), show a.length + b.length - 1 - a.length = b.length - 1 by omega, ← List.getD_eq_getElem?_getD, bl_tx] at h4
    rw [hl] at h4
    cases h4
  unfold Tx.trimmed
  rw [hd, mk_size, h1, h2, ext_mk, tl_mk]
  congr 2
  rw [List.append_assoc, List.drop_left, show a.length + b.length - a.length = b.length by omega, List.take_left]

/-- a byte of a name -/
def nmC (c : UInt8) : Bool := !(c == 36 || c == 61 || c == 59 || c == 58 || c == 43 || c == 63 || c == 33 || c == 32 || c == 9 || c == 10)
theorem nmC_no {c : UInt8} (h : nmC c = true) : c ≠ 36 ∧ c ≠ 61 ∧ c ≠ 59 ∧ c ≠ 58 ∧ c ≠ 43 ∧ c ≠ 63 ∧ c ≠ 33 ∧ bl c = false := by
  unfold nmC at h
  simp only [Bool.not_eq_true', Bool.or_eq_false_iff, beq_eq_false_iff_ne] at h
  obtain ⟨⟨⟨⟨⟨⟨⟨⟨⟨h1, h2⟩, h3⟩, h4⟩, h5⟩, h6⟩, h7⟩, h8⟩, h9⟩, h10⟩ := h
  refine ⟨h1, h2, h3, h4, h5, h6, h7, ?_⟩
  cases hb : bl c with
  | false => rfl
  | true => rcases bl_yes c hb with h | h | h <;> contradiction
/-- the signs, and how each sets -/
def mdL : Nat → Bs
  | 3 => [63]
  | 4 => [43]
  | 5 => [33]
  | _ => []
def sgL : Nat → Bs
  | 1 => [58, 61]
  | 2 => [58, 58, 61]
  | _ => [61]
def opL (k : Nat) : Bs := mdL k ++ sgL k
def setL : Nat → Nat
  | 0 => 1
  | 1 => 2
  | 2 => 2
  | 3 => 3
  | 4 => 4
  | _ => 5
theorem sep_sg (k : Nat) (hk : k ≤ 5) (r : Bs) : sepP (sgL k ++ r) = ((sgL k).length, decide (k = 1 ∨ k = 2)) := by
  rcases (by omega : k = 0 ∨ k = 1 ∨ k = 2 ∨ k = 3 ∨ k = 4 ∨ k = 5) with rfl | rfl | rfl | rfl | rfl | rfl <;> simp [sgL, sepP, Lib.hasPrefix]
theorem sg_head (k : Nat) (hk : k ≤ 5) : ∃ c r, sgL k = c :: r ∧ (c = 61 ∨ c = 58) ∧ (c = 61 ↔ ¬ (k = 1 ∨ k = 2)) := by
  rcases (by omega : k = 0 ∨ k = 1 ∨ k = 2 ∨ k = 3 ∨ k = 4 ∨ k = 5) with rfl | rfl | rfl | rfl | rfl | rfl <;> exact ⟨_, _, rfl, by simp, by simp⟩
theorem drop_blanks (a v : Bs) (ha : ∀ y ∈ a, bl y = true) (hv : v.dropWhile bl = v) : (a ++ v).dropWhile bl = v := by
  induction a with
  | nil => exact hv
  | cons y a ih =>
    rw [List.cons_append, List.dropWhile_cons_of_pos (ha y (List.mem_cons_self ..))]
    exact ih (fun z hz => ha z (List.mem_cons_of_mem _ hz))
/-- what a left side is: blanks, a name, blanks, a sign's byte -/
theorem left_is (n b0 b1 : Bs) (k : Nat) (hk : k ≤ 5) (hn : n ≠ []) (hnc : ∀ c ∈ n, nmC c = true) (h0 : ∀ y ∈ b0, bl y = true) (h1 : ∀ y ∈ b1, bl y = true) (r : ByteArray) :
    asgB (mk (b0 ++ (n ++ (b1 ++ mdL k)))) r (decide (k = 1 ∨ k = 2)) = ⟨1, mk n, pb r, nil, nil, (setL k : Nat), false, false⟩ := by
  obtain ⟨x, n0, hx⟩ : ∃ x n0, n = x :: n0 := by
    cases n with
    | nil => exact absurd rfl hn
    | cons x n0 => exact ⟨x, n0, rfl⟩
  have hxb : bl x = false := (nmC_no (hnc x (by rw [hx]; exact List.mem_cons_self ..))).2.2.2.2.2.2.2
  have hlen : n.length - 1 < n.length := by rw [hx]; simp
  have hlast := nmC_no (hnc _ (gd_mem hlen))
  have plain : Tx.trimmed (mk (b0 ++ (n ++ b1))) = mk n := by
    rw [← List.append_assoc]
    exact trimmed_mid b0 n b1 h0 h1 x n0 hx hxb hlast.2.2.2.2.2.2.2
  have nosuf : ∀ c, n.getD (n.length - 1) 0 ≠ c → Lib.hasSuffix n [c] = false := by
    intro c hc
    cases hb : Lib.hasSuffix n [c] with
    | false => rfl
    | true =>
      have h2 : [c] <:+ n := List.isSuffixOf_iff_suffix.1 hb
      obtain ⟨t, ht⟩ := h2
      exact absurd (by rw [← ht, show (t ++ [c]).length - 1 = t.length by simp, gd_at]) hc
  have mod0 : modB (mk n) = (mk n, 1) := by
    unfold modB
    rw [tl_mk, nosuf 43 hlast.2.2.2.2.1, nosuf 63 hlast.2.2.2.2.2.1, nosuf 33 hlast.2.2.2.2.2.2.1]
    rfl
  have sgn : ∀ c : UInt8, bl c = false → Tx.trimmed (mk (b0 ++ (n ++ (b1 ++ [c])))) = mk (n ++ (b1 ++ [c])) := by
    intro c hc
    have := trimmed_mid b0 (n ++ (b1 ++ [c])) [] h0 (by simp) x (n0 ++ (b1 ++ [c])) (by rw [hx]; rfl) hxb (by
      rw [← List.append_assoc, show ((n ++ b1) ++ [c]).length - 1 = (n ++ b1).length by simp, gd_at]
      exact hc)
    rw [List.append_nil] at this
    exact this
  have cutE : ∀ c : UInt8, (mk (n ++ (b1 ++ [c]))).extract 0 ((mk (n ++ (b1 ++ [c]))).size - 1) = mk (n ++ b1) := by
    intro c
    rw [ext_take, tl_mk, mk_size, ← List.append_assoc, show ((n ++ b1) ++ [c]).length - 1 = (n ++ b1).length by simp, List.take_left]
  have trimE : Tx.trimmed (mk (n ++ b1)) = mk n := by
    have := trimmed_mid [] n b1 (by simp) h1 x n0 hx hxb hlast.2.2.2.2.2.2.2
    rw [List.nil_append] at this
    exact this
  have sufs : ∀ c d : UInt8, Lib.hasSuffix (n ++ (b1 ++ [c])) [d] = decide (c = d) := by
    intro c d
    by_cases e : c = d
    · subst e
      rw [decide_eq_true rfl]
      exact List.isSuffixOf_iff_suffix.2 ⟨n ++ b1, by simp⟩
    · rw [decide_eq_false e]
      cases hb : Lib.hasSuffix (n ++ (b1 ++ [c])) [d] with
      | false => rfl
      | true =>
        obtain ⟨t, ht⟩ := (List.isSuffixOf_iff_suffix.1 hb : [d] <:+ n ++ (b1 ++ [c]))
        rw [← List.append_assoc] at ht
        have := (List.append_inj' ht rfl).2
        exact absurd (by simpa using this.symm) e
  rcases (by omega : k = 0 ∨ k = 1 ∨ k = 2 ∨ k = 3 ∨ k = 4 ∨ k = 5) with rfl | rfl | rfl | rfl | rfl | rfl
  · simp [asgB, mdL, setL, plain, mod0]
  · simp [asgB, mdL, setL, plain]
  · simp [asgB, mdL, setL, plain]
  · have m3 : modB (mk (n ++ (b1 ++ [63]))) = (mk n, 3) := by
      unfold modB
      rw [tl_mk, sufs, sufs, cutE, trimE]
      rfl
    simp only [asgB, mdL, setL]
    rw [sgn 63 (by decide), m3]
    rfl
  · have m4 : modB (mk (n ++ (b1 ++ [43]))) = (mk n, 4) := by
      unfold modB
      rw [tl_mk, sufs, cutE, trimE]
      rfl
    simp only [asgB, mdL, setL]
    rw [sgn 43 (by decide), m4]
    rfl
  · have m5 : modB (mk (n ++ (b1 ++ [33]))) = (mk n, 5) := by
      unfold modB
      rw [tl_mk, sufs, sufs, sufs, cutE, trimE]
      rfl
    simp only [asgB, mdL, setL]
    rw [sgn 33 (by decide), m5]
    rfl
theorem md_stop (k : Nat) : ∀ x ∈ mdL k, x ≠ 36 ∧ ([61, 58, 59] : Bs).contains x = false := by
  intro x hx
  unfold mdL at hx
  split at hx
  · obtain rfl := List.mem_singleton.1 hx; decide
  · obtain rfl := List.mem_singleton.1 hx; decide
  · obtain rfl := List.mem_singleton.1 hx; decide
  · cases hx
theorem bl_stop {x : UInt8} (h : bl x = true) : x ≠ 36 ∧ ([61, 58, 59] : Bs).contains x = false := by
  rcases bl_yes x h with rfl | rfl | rfl <;> decide
theorem nm_stop {x : UInt8} (h : nmC x = true) : x ≠ 36 ∧ ([61, 58, 59] : Bs).contains x = false := by
  have := nmC_no h
  refine ⟨this.1, ?_⟩
  simp [this.2.1, this.2.2.1, this.2.2.2.1]
theorem two_stop {x : UInt8} (h : ([61, 58, 59] : Bs).contains x = false) : ([61, 58] : Bs).contains x = false := by
  simp at h ⊢
  exact ⟨h.1, h.2.1⟩
/-- the bytes of a left side are no stops -/
theorem side_stop (n b0 b1 : Bs) (k : Nat) (hnc : ∀ c ∈ n, nmC c = true) (h0 : ∀ y ∈ b0, bl y = true) (h1 : ∀ y ∈ b1, bl y = true) : ∀ x ∈ b0 ++ (n ++ (b1 ++ mdL k)), x ≠ 36 ∧ ([61, 58, 59] : Bs).contains x = false := by
  intro x hx
  rcases List.mem_append.1 hx with h | h
  · exact bl_stop (h0 x h)
  rcases List.mem_append.1 h with h | h
  · exact nm_stop (hnc x h)
  rcases List.mem_append.1 h with h | h
  · exact bl_stop (h1 x h)
  · exact md_stop k x h
/-- what stands at the place of the sign -/
theorem as_is (n b0 b1 b2 v : Bs) (k : Nat) (hk : k ≤ 5) (hn : n ≠ []) (hnc : ∀ c ∈ n, nmC c = true) (h0 : ∀ y ∈ b0, bl y = true) (h1 : ∀ y ∈ b1, bl y = true) (h2 : ∀ y ∈ b2, bl y = true) (hv : v.dropWhile bl = v) (s : ByteArray) (hs : tl s = (b0 ++ (n ++ (b1 ++ mdL k))) ++ (sgL k ++ (b2 ++ v))) :
    setB s (b0 ++ (n ++ (b1 ++ mdL k))).length = true ∧ asB s (b0 ++ (n ++ (b1 ++ mdL k))).length = ⟨1, mk n, mk v, nil, nil, (setL k : Nat), false, false⟩ := by
  have hL := left_is n b0 b1 k hk hn hnc h0 h1
  generalize b0 ++ (n ++ (b1 ++ mdL k)) = pre at hs hL
  have hd : (tl s).drop pre.length = sgL k ++ (b2 ++ v) := by rw [hs, List.drop_left]
  have hsp := sep_sg k hk (b2 ++ v)
  obtain ⟨c, r, hc, _, hc3⟩ := sg_head k hk
  constructor
  · unfold setB
    rw [hd, hsp, hs, hc, List.cons_append, gd_at]
    by_cases e : k = 1 ∨ k = 2
    · simp [e]
    · simp [hc3.2 e]
  · unfold asB
    rw [hd, hsp, ext_take, ext_drop, hs, List.take_left, ← List.drop_drop, List.drop_left, List.drop_left, hL]
    unfold pb
    rw [tl_mk, drop_blanks b2 v h2 hv]
/-- a line that is an assignment -/
theorem take_set (n b1 b2 v : Bs) (k : Nat) (hk : k ≤ 5) (hn : n ≠ []) (hnc : ∀ c ∈ n, nmC c = true) (h1 : ∀ y ∈ b1, bl y = true) (h2 : ∀ y ∈ b2, bl y = true) (hv : v.dropWhile bl = v) (s : ByteArray) (hs : tl s = n ++ (b1 ++ (mdL k ++ (sgL k ++ (b2 ++ v))))) :
    takeB s = ⟨1, mk n, mk v, nil, nil, (setL k : Nat), false, false⟩ := by
  have hs' : tl s = ([] ++ (n ++ (b1 ++ mdL k))) ++ (sgL k ++ (b2 ++ v)) := by rw [hs]; simp
  obtain ⟨ha, hb⟩ := as_is n [] b1 b2 v k hk hn hnc (by simp) h1 h2 hv s hs'
  have hst := side_stop n [] b1 k hnc (by simp) h1
  obtain ⟨c, r, hc, hc2, _⟩ := sg_head k hk
  have hf := tl_len s
  unfold takeB
  rw [hs', hc, List.cons_append, scn_pre [61, 58] _ _ c (by rcases hc2 with rfl | rfl <;> decide) (by rcases hc2 with rfl | rfl <;> decide) (fun x hx => ⟨(hst x hx).1, two_stop (hst x hx).2⟩) (s.size + 1) (by rw [← hf, hs']; simp; omega)]
  simp only []
  rw [if_pos ha, hb]
/-- a line that is a target's variable -/
theorem take_scoped (t n b0 b1 b2 v : Bs) (k : Nat) (hk : k ≤ 5) (ht : ∀ x ∈ t, x ≠ 36 ∧ ([61, 58] : Bs).contains x = false) (hb0 : b0 ≠ []) (hn : n ≠ []) (hnc : ∀ c ∈ n, nmC c = true) (h0 : ∀ y ∈ b0, bl y = true) (h1 : ∀ y ∈ b1, bl y = true) (h2 : ∀ y ∈ b2, bl y = true) (hv : v.dropWhile bl = v) (s : ByteArray) (hs : tl s = t ++ 58 :: (b0 ++ (n ++ (b1 ++ (mdL k ++ (sgL k ++ (b2 ++ v))))))) :
    takeB s = ⟨3, mk t, mk v, mk n, nil, (setL k : Nat), false, false⟩ := by
  obtain ⟨x0, b00, hx0⟩ : ∃ x r, b0 = x :: r := by
    cases b0 with
    | nil => exact absurd rfl hb0
    | cons x r => exact ⟨x, r, rfl⟩
  have hx0b : bl x0 = true := h0 x0 (by rw [hx0]; exact List.mem_cons_self ..)
  have hf := tl_len s
  have hq : scn [61, 58] (tl s) (s.size + 1) 0 = some t.length := by
    rw [hs]
    exact scn_pre [61, 58] t _ 58 (by decide) (by decide) ht (s.size + 1) (by rw [← hf, hs]; simp; omega)
  have hd : (tl s).drop t.length = 58 :: (b0 ++ (n ++ (b1 ++ (mdL k ++ (sgL k ++ (b2 ++ v)))))) := by rw [hs, List.drop_left]
  have hsp : sepP ((tl s).drop t.length) = (1, false) := by
    rw [hd, hx0, List.cons_append]
    rcases bl_yes x0 hx0b with rfl | rfl | rfl <;> simp [sepP, Lib.hasPrefix]
  have hset : setB s t.length = false := by
    unfold setB
    rw [hsp, hs, gd_at]
    rfl
  have hbe : tl (s.extract (t.length + 1) s.size) = (b0 ++ (n ++ (b1 ++ mdL k))) ++ (sgL k ++ (b2 ++ v)) := by
    rw [ext_drop, tl_mk, ← List.drop_drop, hd, List.drop_one, List.tail_cons]
    simp
  obtain ⟨ha, hb⟩ := as_is n b0 b1 b2 v k hk hn hnc h0 h1 h2 hv _ hbe
  have hst := side_stop n b0 b1 k hnc h0 h1
  obtain ⟨c, r, hc, hc2, _⟩ := sg_head k hk
  have hf2 := tl_len (s.extract (t.length + 1) s.size)
  have hrh : rhB (s.extract (t.length + 1) s.size) = ⟨3, nil, mk v, mk n, nil, (setL k : Nat), false, false⟩ := by
    unfold rhB scoB
    have hsc : scn [61, 58, 59] (tl (s.extract (t.length + 1) s.size)) ((s.extract (t.length + 1) s.size).size + 1) 0 = some (b0 ++ (n ++ (b1 ++ mdL k))).length := by
      rw [← hf2, hbe, hc, List.cons_append]
      exact scn_pre [61, 58, 59] _ _ c (by rcases hc2 with rfl | rfl <;> decide) (by rcases hc2 with rfl | rfl <;> decide) hst _ (by simp; omega)
    have hg : (tl (s.extract (t.length + 1) s.size)).getD (b0 ++ (n ++ (b1 ++ mdL k))).length 0 = c := by
      rw [hbe, hc, List.cons_append, gd_at]
    rw [hsc]
    simp only []
    rw [hg, if_neg (by rcases hc2 with rfl | rfl <;> decide), if_pos ha, hb]
  unfold takeB
  rw [hq]
  simp only []
  rw [if_neg (by rw [hset]; decide), hsp]
  simp only []
  rw [hrh, ext_take, hs, List.take_left]
  rfl
end Go.Proofs.YtchnimlnoolkiaaGreatDoor
